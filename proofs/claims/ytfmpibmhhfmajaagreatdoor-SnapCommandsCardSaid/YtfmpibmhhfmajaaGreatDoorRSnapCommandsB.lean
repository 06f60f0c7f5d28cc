/- What SnapCommands wants besides: SnRef5, SnKinds, SnPt, SnLine, SnTold, SnRight, SnCon, SnTold2. -/
import Derived.Test.YtfmpibmhhfmajaaGreatDoorSnRef3
import Derived.Test.YtfmpibmhhfmajaaGreatDoorPSc
import Derived.Test.YtfmpibmhhfmajaaGreatDoorPOr
import Derived.Test.YtfmpibmhhfmajaaGreatDoorMgOrders
import Derived.Test.YtfmpibmhhfmajaaGreatDoorSnLay
import Derived.Test.YtfmpibmhhfmajaaGreatDoorRows
import Derived.LaidLaws
import Derived.LaidSub
import Derived.MakeChecks
import Derived.OpenShut
import Derived.Test.YtfmpibmhhfmajaaGreatDoorSnKinds
import Derived.Test.YtfmpibmhhfmajaaGreatDoorMgStates
import Derived.Deep.DeepCutAuto
import Derived.Deep.QuietTactic
import Derived.Test.YtfmpibmhhfmajaaGreatDoorSnRef4
import Derived.Test.YtfmpibmhhfmajaaGreatDoorSnPlain2
import Derived.Test.YtfmpibmhhfmajaaGreatDoorMgCopy
import Derived.Test.YtfmpibmhhfmajaaGreatDoorSnTold
import Derived.Test.YtfmpibmhhfmajaaGreatDoorSnRight
import Derived.Test.YtfmpibmhhfmajaaGreatDoorSnCon
import Derived.Test.YtfmpibmhhfmajaaGreatDoorMgBase
import Derived.Test.YtfmpibmhhfmajaaGreatDoorPLb
import Derived.Test.YtfmpibmhhfmajaaGreatDoorLbShelf
import Derived.Test.YtfmpibmhhfmajaaGreatDoorPSl
import Derived.Test.YtfmpibmhhfmajaaGreatDoorMgLines
import Derived.Test.YtfmpibmhhfmajaaGreatDoorMgBatches
import Derived.Test.YtfmpibmhhfmajaaGreatDoorMgEffects
import Derived.Test.YtfmpibmhhfmajaaGreatDoorPDy
import Derived.Test.YtfmpibmhhfmajaaGreatDoorDyShelf
import Derived.Test.YtfmpibmhhfmajaaGreatDoorMgState
import Derived.Test.YtfmpibmhhfmajaaGreatDoorMgRight
import Derived.Test.YtfmpibmhhfmajaaGreatDoorMgProg
import Derived.Test.YtfmpibmhhfmajaaGreatDoorPBt
import Derived.Test.YtfmpibmhhfmajaaGreatDoorPOb
import Derived.Test.YtfmpibmhhfmajaaGreatDoorSnPlain
import Derived.Test.YtfmpibmhhfmajaaGreatDoorSnLines
import Derived.Test.YtfmpibmhhfmajaaGreatDoorSnRow
import Derived.Test.YtfmpibmhhfmajaaGreatDoorSnOwn
import Derived.Test.YtfmpibmhhfmajaaGreatDoorSnRead0
import Derived.Test.YtfmpibmhhfmajaaGreatDoorSnReadP
import Derived.Test.YtfmpibmhhfmajaaGreatDoorSnReadP2
import Derived.Test.YtfmpibmhhfmajaaGreatDoorSnReadP3
import Derived.Test.YtfmpibmhhfmajaaGreatDoorSnReadD
import Derived.Test.YtfmpibmhhfmajaaGreatDoorSnCmd
import Derived.Test.YtfmpibmhhfmajaaGreatDoorSnState
import Derived.Test.YtfmpibmhhfmajaaGreatDoorSnAlive
import Derived.Test.YtfmpibmhhfmajaaGreatDoorRSnapCommandsA
namespace Go.Proofs.YtfmpibmhhfmajaaGreatDoor

/- SnRef5: The document's Told: the command of bytes. -/
section
set_option maxRecDepth 100000
open Go.RowKit Go.ChangeShapes Go.WideShapes Go.ChangeAt
attribute [local go_sem ↓] ldCm stCm alCm bxCm bdCm
attribute [local go_sem] al_cm bx_cm st_cmnew bd_cm bd_cmKind

def FitC (m : Cm) : Prop := (∀ x ∈ m.ls, x.sku.size ≤ 32) ∧ m.ls.length ≤ 8 ∧ m.id.size ≤ 32 ∧ m.car.size ≤ 32 ∧ m.zone.size ≤ 32 ∧ m.serv.size ≤ 32
theorem cmP_own {w : World} {base : Nat} {o : CmR} (h : OwnL w base (.slice o.a o.m.ls.length o.c) o.m.ls) (hf : FitC o.m) : CmP w o := by
  obtain ⟨f1, f2, f3, f4, f5, f6⟩ := hf
  obtain ⟨a', c', e, h1⟩ := h.lns (fun x hx => by unfold maxLen; have := f1 x hx; omega)
  injection e with e1 e2 e3
  have h1 : LnsP w o.a o.c o.m.ls := by rw [e1, e3]; exact h1
  exact ⟨h1, by unfold maxLen; omega, by unfold maxLen; omega, by unfold maxLen; omega, by unfold maxLen; omega, by unfold maxLen; omega⟩
def ToldPost (l : List Nat) (w : World) (e : Ending) (w' : World) : Prop := ∃ r : CmR, e = .returned (.tuple #[cmV r, .int .i64 (toldE l)]) ∧ r.m = toldV l ∧ CmP w' r ∧ Below w.heap.size w w'
theorem empty32 : (⟨#[]⟩ : ByteArray).size ≤ 32 := by decide
theorem strB_32 {s : Sc} (h : BytesS s) : (strB (textS 32 s).1).size ≤ 32 := by rw [strB_size]; exact textS_le 32 h
end

/- SnKinds: The table of what a command of each kind has, as the program's text lays it; partsOf, isKind, fits, isGroup and asNumber of package snap. -/
section
set_option maxRecDepth 100000
open Go.RowKit Go.ChangeShapes Go.WideShapes Go.ChangeAt

section
variable (ev : Operand → Value) (d : Option Tmp) (ty : TypeId) (pos : String) (af : Array Edge) (gd : Option (Nat × Bool)) (w : World)
end
attribute [local go_sem ↓] ldPt stPt alPt bdPt
attribute [local go_sem] al_pt st_ptnew bd_pt

theorem fits_any (a b c : Bool) (w : World) : Calls Tryz.prog 34 #[.bool a, .bool b, .bool c] w (BoolSame (if a then b else c) w) := by
  cases a
  all_goals
    go_enter Tryz.func34, Tryz.ntmps34
    go_wp2_with fail
    go_ret
    exact ⟨rfl, rfl⟩
set_option maxHeartbeats 2000000 in
theorem snIsGroup_any (a b c : ByteArray) (w : World) (ha : a.size ≤ maxLen) (hb : b.size ≤ maxLen) (hc : c.size ≤ maxLen) : Calls Tryz.prog 37 #[.agg #[.string a, .string b, .string c]] w (Tell (groupB a b c) w) := by
  have C1 : Hid (∀ w, Calls Tryz.prog 35 #[.string a] w (Tell (rightT a) w)) := Lib.hid (fun w => right_any a w ha)
  have C2 : Hid (∀ w, Calls Tryz.prog 35 #[.string b] w (Tell (rightT b) w)) := Lib.hid (fun w => right_any b w hb)
  have C3 : Hid (∀ w, Calls Tryz.prog 35 #[.string c] w (Tell (rightT c) w)) := Lib.hid (fun w => right_any c w hc)
  have D := Lib.hid (GrB.new w a b c)
  have B := Lib.hid ((Below.refl w.heap.size w).alloc (Nat.le_refl _) (Obj.cells #[Value.string a, Value.string b, Value.string c] 24))
  have HE := Lib.hid (show groupB a b c = (rightT a && (rightT b && rightT c)) from rfl)
  clear ha hb hc
  go_enter Tryz.func37, Tryz.ntmps37
  go_wp2_with fail
  refine (C1.out _).mono ?_
  rintro e w1 ⟨rfl, b1⟩
  generalize w.alloc (Obj.cells #[Value.string a, Value.string b, Value.string c] 24) = W at *
  have D1 := Lib.hid (D.out.below b1)
  have B1 := Lib.hid (B.out.trans (b1.mono B.out.size))
  obtain ⟨c0, c1, c2⟩ := D1.out.cells
  clear b1
  cases h1 : rightT a with
  | false =>
    go_wp2_with fail
    go_ret
    exact ⟨by rw [HE.out, h1]; rfl, B1.out⟩
  | true =>
    go_wp2_with fail
    refine (C2.out _).mono ?_
    rintro e w2 ⟨rfl, b2⟩
    have D2 := Lib.hid (D1.out.below b2)
    have B2 := Lib.hid (B1.out.trans (b2.mono B1.out.size))
    clear c0 c1 c2 b2
    obtain ⟨c0, c1, c2⟩ := D2.out.cells
    cases h2 : rightT b with
    | false =>
      go_wp2_with fail
      go_ret
      exact ⟨by rw [HE.out, h1, h2]; rfl, B2.out⟩
    | true =>
      go_wp2_with fail
      refine (C3.out _).mono ?_
      rintro e w3 ⟨rfl, b3⟩
      have B3 := Lib.hid (B2.out.trans (b3.mono B2.out.size))
      clear c0 c1 c2 b3
      go_wp2_with fail
      go_ret
      exact ⟨by rw [HE.out, h1, h2]; rfl, B3.out⟩
end

/- SnPt: A command can be: part by part, by what its kind has. -/
section
set_option maxRecDepth 100000

/-- Right, part by part. -/
def partB (has right zero : Bool) : Bool := if has then right else zero
def idB (p : Pt) (c : Cm) : Bool := partB p.id (rightT c.id) (c.id.toList == [])
def lnB (p : Pt) (c : Cm) : Bool := partB p.ln (rightLB c.ls) (((c.ls.length : Nat) : Int) == 0)
def grB (p : Pt) (c : Cm) : Bool := partB p.gr (groupB c.car c.zone c.serv) (sameG c.car c.zone c.serv ⟨#[]⟩ ⟨#[]⟩ ⟨#[]⟩)
def totB (p : Pt) (c : Cm) : Bool := partB p.tot (tallyB c.total) (c.total == 0)
def numB (p : Pt) (c : Cm) : Bool := partB (decide (0 < p.most)) (decide (1 ≤ c.number) && decide (c.number ≤ p.most)) (c.number == 0)
def yesB (p : Pt) (c : Cm) : Bool := p.yes || !c.yes
def rtB (p : Pt) (c : Cm) : Bool := cmdB c.kind && (idB p c && (lnB p c && (grB p c && (totB p c && (numB p c && yesB p c)))))
theorem str_empty (s : ByteArray) : (s.toList == []) = s.toList.isEmpty := by cases s.toList <;> rfl
theorem str_nil (s : ByteArray) : (s.toList == []) = true ↔ s = ⟨#[]⟩ := by
  have := toList_iff s ⟨#[]⟩
  rwa [show (⟨#[]⟩ : ByteArray).toList = [] from by decide +kernel] at this
theorem sameG_none (a b c : ByteArray) : sameG a b c ⟨#[]⟩ ⟨#[]⟩ ⟨#[]⟩ = true ↔ a = ⟨#[]⟩ ∧ b = ⟨#[]⟩ ∧ c = ⟨#[]⟩ := by
  simp only [sameG, Bool.and_eq_true, toList_iff]
theorem lenP (l : List Ln) : ((l.length : Nat) : Int) = 0 ↔ l = [] := by
  rw [← List.length_eq_zero_iff]
  omega
theorem strP (s : ByteArray) : s.toList = [] ↔ s = ⟨#[]⟩ := by rw [← str_nil, beq_iff_eq]
theorem right_parts (c : Cm) : rightC c = rtB (ptOf c.kind) c := by
  by_cases hk : 1 ≤ c.kind ∧ c.kind ≤ 8
  · rw [Bool.eq_iff_iff]
    unfold rightC
    rw [Bool.and_eq_true, sameCm_iff]
    obtain ⟨k, id, ls, car, zone, serv, tot, num, yes⟩ := c
    have hkk : k = 1 ∨ k = 2 ∨ k = 8 ∨ k = 3 ∨ k = 4 ∨ k = 5 ∨ k = 6 ∨ k = 7 := by
      have : 1 ≤ k ∧ k ≤ 8 := hk
      omega
    clear hk
    simp only [rtB, idB, lnB, grB, totB, numB, yesB, Bool.and_eq_true]
    rcases hkk with rfl | rfl | rfl | rfl | rfl | rfl | rfl | rfl
    all_goals simp only [bareC, fitsC, ptOf, partB, cmdB, Bool.and_eq_true, Cm.mk.injEq, sameG_none, beq_iff_eq, decide_eq_true_eq, aboveB_iff, Int.reduceEq, if_true, if_false, or_self, true_or, or_true, Int.reduceLT, Int.reduceLE, decide_true, decide_false, Bool.false_eq_true, Bool.true_or, Bool.false_or, Bool.not_eq_true', true_and, and_true, lenP, strP, and_assoc]
    all_goals constructor <;> intro h <;> simp_all only [and_self]
  · have h1 : rightC c = false := by
      cases h : rightC c with
      | false => rfl
      | true => exact absurd (rightC_kind h) hk
    have h2 : cmdB c.kind = false := by simpa [cmdB] using hk
    rw [h1, rtB, h2, Bool.false_and]
end

/- SnLine: What readLine and readGroup of package snap answer. -/
section
open Go.RowKit Go.ChangeShapes Go.WideShapes Go.ChangeAt

set_option maxRecDepth 100000 in
set_option maxHeartbeats 4000000 in
theorem snReadLine_any (w : World) (g : Nat) (s : Sc) (h : RdS w g s) : Calls Tryz.prog 91 #[.pointer (some ⟨g, 0, none⟩)] w (ReadS g (lineV (lineS s).1) (lineS s).2 w) := by
  have hg := h.lt
  have K0 := Lib.hid (Rin.begin h 72 #[.string ⟨#[]⟩, .int .i64 0, .int .i64 0])
  have y1 := h.bytes
  rcases h1 : textS 32 s with ⟨v1, s1⟩
  have z1 : BytesS s1 := by have := (textS_bytes y1 32).1; rwa [h1] at this
  have C1 := Lib.hid (fun W hW => show Calls Tryz.prog 90 #[.pointer (some ⟨g, 0, none⟩), .int .i64 32] W (ReadS g (.string (strB v1)) s1 W) by have := rd_text W g s 32 hW (by decide); rwa [h1] at this)
  have y2 := z1
  rcases h2 : numS 1000 s1 with ⟨v2, s2⟩
  have z2 : BytesS s2 := by have := numS_bytes y2 1000; rwa [h2] at this
  have n2 : v2 ≤ 1000 := by have := numS_le 1000 s1 y2; rwa [h2] at this
  have C2 := Lib.hid (fun W hW => show Calls Tryz.prog 89 #[.pointer (some ⟨g, 0, none⟩), .int .u64 1000] W (ReadS g (.int .u64 (v2 : Int)) s2 W) by have := rd_num W g s1 1000 hW (by decide); rwa [h2] at this)
  have e2 : IntKind.i64.wrap (v2 : Int) = (v2 : Int) := by rw [IntKind.wrap_i64]; omega
  have y3 := z2
  rcases h3 : numS 100000 s2 with ⟨v3, s3⟩
  have z3 : BytesS s3 := by have := numS_bytes y3 100000; rwa [h3] at this
  have n3 : v3 ≤ 100000 := by have := numS_le 100000 s2 y3; rwa [h3] at this
  have C3 := Lib.hid (fun W hW => show Calls Tryz.prog 89 #[.pointer (some ⟨g, 0, none⟩), .int .u64 100000] W (ReadS g (.int .u64 (v3 : Int)) s3 W) by have := rd_num W g s2 100000 hW (by decide); rwa [h3] at this)
  have e3 : IntKind.i64.wrap (v3 : Int) = (v3 : Int) := by rw [IntKind.wrap_i64]; omega
  have HP := Lib.hid (show lineS s = (⟨strB v1, (v2 : Int), (v3 : Int)⟩, s3) by simp only [lineS, h1, h2, h3])
  clear h h1 h2 h3 y1 y2 y3 z1 z2 z3
  clear n2 n3
  go_enter Tryz.func91, Tryz.ntmps91
  go_wp2_with fail
  generalize (w.alloc (Obj.cells #[Value.string ⟨#[]⟩, Value.int IntKind.i64 0, Value.int IntKind.i64 0] 72)).alloc (Obj.cells #[Value.string ⟨#[]⟩, Value.int IntKind.i64 0, Value.int IntKind.i64 0] 72) = W0 at *
  refine (C1.out _ K0.out.rd).mono ?_
  rintro e w1 ⟨rfl, r1, b1⟩
  have J1 := Lib.hid (K0.out.call hg r1 b1)
  obtain ⟨⟨c0, c1, c2⟩, f0, f1, f2⟩ := cellsR3 J1.out.var
  clear r1 b1
  have K1 := Lib.hid (J1.out.set hg 0 (.string (strB v1)))
  go_wp2_with fail
  clear c0 c1 c2 f0 f1 f2
  generalize w1.setCell ⟨w.heap.size + 1, 0, none⟩ (.string (strB v1)) = W1 at *
  refine (C2.out _ K1.out.rd).mono ?_
  rintro e w2 ⟨rfl, r2, b2⟩
  have J2 := Lib.hid (K1.out.call hg r2 b2)
  obtain ⟨⟨c0, c1, c2⟩, f0, f1, f2⟩ := cellsR3 J2.out.var
  clear r2 b2
  have K2 := Lib.hid (J2.out.set hg 1 (.int .i64 (v2 : Int)))
  go_wp2_with fail
  clear c0 c1 c2 f0 f1 f2
  generalize w2.setCell ⟨w.heap.size + 1, 1, none⟩ (.int .i64 (v2 : Int)) = W2 at *
  refine (C3.out _ K2.out.rd).mono ?_
  rintro e w3 ⟨rfl, r3, b3⟩
  have J3 := Lib.hid (K2.out.call hg r3 b3)
  obtain ⟨⟨c0, c1, c2⟩, f0, f1, f2⟩ := cellsR3 J3.out.var
  clear r3 b3
  have K3 := Lib.hid (J3.out.set hg 2 (.int .i64 (v3 : Int)))
  go_wp2_with (refine wpList_store_row rfl 72 _ _ rfl w.heap.size #[.string (strB v1), .int .i64 (v2 : Int), .int .i64 (v3 : Int)] rfl rfl 72 #[.string ⟨#[]⟩, .int .i64 0, .int .i64 0] K3.out.res (sizeL _ _ _) rfl (by simp [Value.oneCell']) ?_)
  (try simp only [Exit.inBlock, Exit.then])
  refine bodyPost_ret (v := .agg #[.string (strB v1), .int .i64 (v2 : Int), .int .i64 (v3 : Int)]) ?_ rfl ⟨by rw [HP.out]; rfl, by rw [HP.out]; exact (K3.out.fin hg _).1, (K3.out.fin hg _).2⟩
  exact results_cell_row rfl _ _ w.heap.size 72 _ (0, 0) _ rfl (setRow_heap _ _ _ _ _ _ K3.out.res) Tryz.underlying72 rfl (sizeL _ _ _)

set_option maxRecDepth 100000 in
set_option maxHeartbeats 4000000 in
theorem snReadGroup_any (w : World) (g : Nat) (s : Sc) (h : RdS w g s) : Calls Tryz.prog 92 #[.pointer (some ⟨g, 0, none⟩)] w (ReadS g (groupV (groupS s).1) (groupS s).2 w) := by
  have hg := h.lt
  have K0 := Lib.hid (Rin.begin h 24 #[.string ⟨#[]⟩, .string ⟨#[]⟩, .string ⟨#[]⟩])
  have y1 := h.bytes
  rcases h1 : textS 32 s with ⟨v1, s1⟩
  have z1 : BytesS s1 := by have := (textS_bytes y1 32).1; rwa [h1] at this
  have C1 := Lib.hid (fun W hW => show Calls Tryz.prog 90 #[.pointer (some ⟨g, 0, none⟩), .int .i64 32] W (ReadS g (.string (strB v1)) s1 W) by have := rd_text W g s 32 hW (by decide); rwa [h1] at this)
  have y2 := z1
  rcases h2 : textS 32 s1 with ⟨v2, s2⟩
  have z2 : BytesS s2 := by have := (textS_bytes y2 32).1; rwa [h2] at this
  have C2 := Lib.hid (fun W hW => show Calls Tryz.prog 90 #[.pointer (some ⟨g, 0, none⟩), .int .i64 32] W (ReadS g (.string (strB v2)) s2 W) by have := rd_text W g s1 32 hW (by decide); rwa [h2] at this)
  have y3 := z2
  rcases h3 : textS 32 s2 with ⟨v3, s3⟩
  have z3 : BytesS s3 := by have := (textS_bytes y3 32).1; rwa [h3] at this
  have C3 := Lib.hid (fun W hW => show Calls Tryz.prog 90 #[.pointer (some ⟨g, 0, none⟩), .int .i64 32] W (ReadS g (.string (strB v3)) s3 W) by have := rd_text W g s2 32 hW (by decide); rwa [h3] at this)
  have HP := Lib.hid (show groupS s = ((v1, v2, v3), s3) by simp only [groupS, h1, h2, h3])
  clear h h1 h2 h3 y1 y2 y3 z1 z2 z3
  go_enter Tryz.func92, Tryz.ntmps92
  go_wp2_with fail
  generalize (w.alloc (Obj.cells #[Value.string ⟨#[]⟩, Value.string ⟨#[]⟩, Value.string ⟨#[]⟩] 24)).alloc (Obj.cells #[Value.string ⟨#[]⟩, Value.string ⟨#[]⟩, Value.string ⟨#[]⟩] 24) = W0 at *
  refine (C1.out _ K0.out.rd).mono ?_
  rintro e w1 ⟨rfl, r1, b1⟩
  have J1 := Lib.hid (K0.out.call hg r1 b1)
  obtain ⟨⟨c0, c1, c2⟩, f0, f1, f2⟩ := cellsR3 J1.out.var
  clear r1 b1
  have K1 := Lib.hid (J1.out.set hg 0 (.string (strB v1)))
  go_wp2_with fail
  clear c0 c1 c2 f0 f1 f2
  generalize w1.setCell ⟨w.heap.size + 1, 0, none⟩ (.string (strB v1)) = W1 at *
  refine (C2.out _ K1.out.rd).mono ?_
  rintro e w2 ⟨rfl, r2, b2⟩
  have J2 := Lib.hid (K1.out.call hg r2 b2)
  obtain ⟨⟨c0, c1, c2⟩, f0, f1, f2⟩ := cellsR3 J2.out.var
  clear r2 b2
  have K2 := Lib.hid (J2.out.set hg 1 (.string (strB v2)))
  go_wp2_with fail
  clear c0 c1 c2 f0 f1 f2
  generalize w2.setCell ⟨w.heap.size + 1, 1, none⟩ (.string (strB v2)) = W2 at *
  refine (C3.out _ K2.out.rd).mono ?_
  rintro e w3 ⟨rfl, r3, b3⟩
  have J3 := Lib.hid (K2.out.call hg r3 b3)
  obtain ⟨⟨c0, c1, c2⟩, f0, f1, f2⟩ := cellsR3 J3.out.var
  clear r3 b3
  have K3 := Lib.hid (J3.out.set hg 2 (.string (strB v3)))
  go_wp2_with (refine wpList_store_row rfl 24 _ _ rfl w.heap.size #[.string (strB v1), .string (strB v2), .string (strB v3)] rfl rfl 24 #[.string ⟨#[]⟩, .string ⟨#[]⟩, .string ⟨#[]⟩] K3.out.res (sizeG _ _ _) rfl (by simp [Value.oneCell']) ?_)
  (try simp only [Exit.inBlock, Exit.then])
  refine bodyPost_ret (v := .agg #[.string (strB v1), .string (strB v2), .string (strB v3)]) ?_ rfl ⟨by rw [HP.out]; rfl, by rw [HP.out]; exact (K3.out.fin hg _).1, (K3.out.fin hg _).2⟩
  exact results_cell_row rfl _ _ w.heap.size 24 _ (0, 0) _ rfl (setRow_heap _ _ _ _ _ _ K3.out.res) Tryz.underlying24 rfl (sizeG _ _ _)
end

/- SnTold: What readCommand of package snap answers. -/
section
set_option maxRecDepth 100000
open Go.RowKit Go.ChangeShapes Go.WideShapes Go.ChangeAt
attribute [local go_sem ↓] ldCm stCm alCm bxCm bdCm ldPt stPt alPt bdPt
attribute [local go_sem] al_cm bx_cm st_cmnew bd_cm bd_cmKind al_pt st_ptnew bd_pt

/-- The result's variable, the Reader, what is being read, what its kind has. -/
structure TpI (w : World) (g c h : Nat) (o : CmR) (p : Pt) (s : Sc) (W : World) : Prop where
  res : Row W w.heap.size 26 (cmC noCmR)
  rd : RdS W g s
  but : But g w W
  out : Row W c 26 (cmC o)
  pt : Row W h 61 (ptC p)
  own : OwnL W (h + 1) (.slice o.a o.m.ls.length o.c) o.m.ls
  hg : g < w.heap.size
  hc : w.heap.size < c
  hh : c < h
theorem TpI.call {w W W' : World} {g c h : Nat} {o : CmR} {p : Pt} {s s' : Sc} (i : TpI w g c h o p s W) (r : RdS W' g s') (b : But g W W') : TpI w g c h o p s' W' := by
  have h1 := i.hg; have h2 := i.hc; have h3 := i.hh
  exact ⟨i.res.but b (by omega), r, i.but.trans b, i.out.but b (by omega), i.pt.but b (by omega), i.own.grown fun k k1 k2 => b.block k k2 (by omega), h1, h2, h3⟩
theorem TpI.set {w W : World} {g c h : Nat} {o : CmR} {p : Pt} {s : Sc} (i : TpI w g c h o p s W) (j : Nat) (v : Value) (o' : CmR) (e : (cmC o).setIfInBounds j v = cmC o') (hl : o'.m.ls = o.m.ls ∧ o'.a = o.a ∧ o'.c = o.c) : TpI w g c h o' p s (W.setCell ⟨c, j, none⟩ v) := by
  have h1 := i.hg; have h2 := i.hc; have h3 := i.hh
  obtain ⟨e1, e2, e3⟩ := hl
  have b : But c W (W.setCell ⟨c, j, none⟩ v) := (But.refl _ _).set j v
  refine ⟨i.res.but b (by omega), i.rd.other (k := c) (by omega) b, i.but.new (k := c) (by omega) b, e ▸ i.out.set j v, i.pt.but b (by omega), ?_, h1, h2, h3⟩
  rw [e1, e2, e3]
  exact i.own.cell (k := c) (by omega) j v
theorem TpI.far {w W W' : World} {g c h k : Nat} {o : CmR} {p : Pt} {s : Sc} (i : TpI w g c h o p s W) (hk : h < k) (b : But k W W') (own : OwnL W' (h + 1) (.slice o.a o.m.ls.length o.c) o.m.ls) : TpI w g c h o p s W' := by
  have h1 := i.hg; have h2 := i.hc; have h3 := i.hh
  exact ⟨i.res.but b (by omega), i.rd.other (by omega) b, i.but.new (k := k) (by omega) b, i.out.but b (by omega), i.pt.but b (by omega), own, h1, h2, h3⟩
/-- What lies there beside the lines. -/
structure TpK (w : World) (g c h : Nat) (o : CmR) (p : Pt) (s : Sc) (W : World) : Prop where
  res : Row W w.heap.size 26 (cmC noCmR)
  rd : RdS W g s
  but : But g w W
  out : Row W c 26 (cmC o)
  pt : Row W h 61 (ptC p)
  hg : g < w.heap.size
  hc : w.heap.size < c
  hh : c < h
theorem TpI.k {w W : World} {g c h : Nat} {o : CmR} {p : Pt} {s : Sc} (i : TpI w g c h o p s W) : TpK w g c h o p s W := ⟨i.res, i.rd, i.but, i.out, i.pt, i.hg, i.hc, i.hh⟩
theorem TpK.call {w W W' : World} {g c h : Nat} {o : CmR} {p : Pt} {s s' : Sc} (i : TpK w g c h o p s W) (r : RdS W' g s') (b : But g W W') : TpK w g c h o p s' W' := by
  have h1 := i.hg; have h2 := i.hc; have h3 := i.hh
  exact ⟨i.res.but b (by omega), r, i.but.trans b, i.out.but b (by omega), i.pt.but b (by omega), h1, h2, h3⟩
theorem TpK.far {w W W' : World} {g c h k : Nat} {o : CmR} {p : Pt} {s : Sc} (i : TpK w g c h o p s W) (hk : h < k) (b : But k W W') : TpK w g c h o p s W' := by
  have h1 := i.hg; have h2 := i.hc; have h3 := i.hh
  exact ⟨i.res.but b (by omega), i.rd.other (by omega) b, i.but.new (k := k) (by omega) b, i.out.but b (by omega), i.pt.but b (by omega), h1, h2, h3⟩
theorem TpK.lines {w W : World} {g c h n : Nat} {o o' : CmR} {p : Pt} {s : Sc} (i : TpK w g c h o p s W) (hn : o'.m.ls.length = n) (own : OwnL W (h + 1) (.slice o'.a n o'.c) o'.m.ls) (e : (cmC o).setIfInBounds 2 (.slice o'.a o'.m.ls.length o'.c) = cmC o') : TpI w g c h o' p s (W.setCell ⟨c, 2, none⟩ (.slice o'.a n o'.c)) := by
  subst hn
  have h1 := i.hg; have h2 := i.hc; have h3 := i.hh
  have b : But c W (W.setCell ⟨c, 2, none⟩ (.slice o'.a o'.m.ls.length o'.c)) := (But.refl _ _).set 2 _
  exact ⟨i.res.but b (by omega), i.rd.other (k := c) (by omega) b, i.but.new (k := c) (by omega) b, e ▸ i.out.set 2 _, i.pt.but b (by omega), own.cell (k := c) (by omega) 2 _, h1, h2, h3⟩
theorem TpI.fin {w W : World} {g c h : Nat} {o : CmR} {p : Pt} {s : Sc} (i : TpI w g c h o p s W) (ds : Array Value) :
    OwnL (W.setRow w.heap.size ds) w.heap.size (.slice o.a o.m.ls.length o.c) o.m.ls ∧ RdS (W.setRow w.heap.size ds) g s ∧ But g w (W.setRow w.heap.size ds) := by
  have h1 := i.hg; have h2 := i.hc; have h3 := i.hh
  exact ⟨(i.own.grown fun k k1 k2 => setRow_other _ _ k _ (by omega)).base (by omega), i.rd.other h1 ((But.refl _ _).setRow ds), i.but.new (Nat.le_refl _) ((But.refl _ _).setRow ds)⟩
theorem TpI.begin {w w1 w2 : World} {g : Nat} {k : Int} {p : Pt} {s : Sc} (h1 : RdS w1 g s) (b1 : But g (w.alloc (.cells (cmC noCmR) 26)) w1) (hg : g < w.heap.size) (b2 : Below (w1.alloc (.cells (cmC (kindR k)) 26)).heap.size (w1.alloc (.cells (cmC (kindR k)) 26)) w2) :
    TpI w g w1.heap.size w2.heap.size (kindR k) p s (w2.alloc (.cells (ptC p) 61)) := by
  have R0 := Row.new w (cmC noCmR) 26
  have z1 := b1.size
  have z2 := b2.size
  have z3 : (w.alloc (.cells (cmC noCmR) 26)).heap.size = w.heap.size + 1 := by simp
  have z4 : (w1.alloc (.cells (cmC (kindR k)) 26)).heap.size = w1.heap.size + 1 := by simp
  have b3 := (Below.refl w2.heap.size w2).alloc (Nat.le_refl _) (.cells (ptC p) 61)
  have ba := (Below.refl w1.heap.size w1).alloc (Nat.le_refl _) (.cells (cmC (kindR k)) 26)
  have bt := ba.trans (b2.mono ba.size)
  have bu := bt.trans (b3.mono bt.size)
  have b0 := (Below.refl w.heap.size w).alloc (Nat.le_refl _) (.cells (cmC noCmR) 26)
  exact ⟨((R0.but b1 (by omega)).below bu), h1.below bu, ((But.of b0).trans b1).trans (But.of bu), ((Row.new _ _ _).below b2).below b3, Row.new _ _ _, OwnL.nil _ _, hg, by omega, by omega⟩
/-- A command is answered, whose lines are the call's own; the Reader is further on. -/
def ReadCm (g : Nat) (s : Sc) (w : World) (e : Ending) (w' : World) : Prop :=
  ∃ r : CmR, e = .returned (cmV r) ∧ r.m = (toldS 96 s).1 ∧ OwnL w' w.heap.size (.slice r.a r.m.ls.length r.c) r.m.ls ∧ FitC r.m ∧ RdS w' g (toldS 96 s).2 ∧ But g w w'
theorem groupS_32 {s : Sc} (h : BytesS s) : (strB (groupS s).1.1).size ≤ 32 ∧ (strB (groupS s).1.2.1).size ≤ 32 ∧ (strB (groupS s).1.2.2).size ≤ 32 :=
  ⟨strB_32 h, strB_32 (textS_bytes h 32).1, strB_32 (textS_bytes (textS_bytes h 32).1 32).1⟩
set_option maxHeartbeats 16000000 in
theorem readCommand0 (w : World) (g : Nat) (s : Sc) (hkd : KdAt w) (hgk : g ≠ 0) (i : RdS w g s) (hk : (numS 8 s).1 = 0) : Calls Tryz.prog 27 #[.pointer (some ⟨g, 0, none⟩)] w (ReadCm g s w) := by
  have hg := i.lt
  have y0 := i.bytes
  rcases h1 : numS 8 s with ⟨v1, s1'⟩
  have hk : v1 = 0 := by rw [h1] at hk; exact hk
  subst hk
  have C1 := Lib.hid (fun W hW => show Calls Tryz.prog 89 #[.pointer (some ⟨g, 0, none⟩), .int .u64 8] W (ReadS g (.int .u64 0) s1' W) by have := rd_num W g s 8 hW (by decide); rwa [h1] at this)
  have y1 : BytesS s1' := by have := numS_bytes y0 8; rwa [h1] at this
  have hmf : ∀ (fn : Fn) (first cap : Array Value) (w : World), (Instr.makeFunc fn first cap).run Tryz.prog w = .ok (.func fn first cap) w := fun _ _ _ _ => rfl
  obtain ⟨p, hpp⟩ : ∃ p, ptOf (0 : Int) = p := ⟨_, rfl⟩
  have CP := Lib.hid (fun W (h : KdAt W) => show Calls Tryz.prog 32 #[.int .i64 0] W (fun e w' => e = .returned (ptV p) ∧ Below W.heap.size W w') by have := partsOf_any 0 W h; unfold PartB at this; rwa [hpp] at this)
  have e_id : p.id = false := by rw [← hpp]; rfl
  have e_ln : p.ln = false := by rw [← hpp]; rfl
  have e_gr : p.gr = false := by rw [← hpp]; rfl
  have e_tot : p.tot = false := by rw [← hpp]; rfl
  have e_yes : p.yes = false := by rw [← hpp]; rfl
  have e_most : p.most = 0 := by rw [← hpp]; rfl
  clear hpp
  have B0 : Below w.heap.size w (w.alloc (.cells (cmC noCmR) 26)) := (Below.refl _ _).alloc (Nat.le_refl _) _
  have S0 := Lib.hid (i.below B0)
  have HKD := Lib.hid (hkd.below B0)
  clear hkd B0
  have HT := Lib.hid (show toldS 96 s = ((kindR 0).m, s1') by rw [toldS, h1]; rfl)
  have HFit : Hid (FitC (kindR 0).m) := Lib.hid ⟨fun x hx => (by cases hx), by decide, by decide, by decide, by decide, by decide⟩
  clear h1 y1
  clear i
  go_enter Tryz.func27, Tryz.ntmps27
  go_wp2_with fail
  refine (C1.out _ S0.out).mono ?_
  rintro e w1 ⟨rfl, r1, b1⟩
  have kd1 : KdAt (w1.alloc (.cells (cmC (kindR 0)) 26)) := KdAt.below (KdAt.but HKD.out b1 hgk) ((Below.refl _ _).alloc (Nat.le_refl _) _)
  have CP := Lib.hid (CP.out _ kd1)
  have k0 : (w1.alloc (.cells (cmC (kindR 0)) 26)).cell? ⟨w1.heap.size, 0, none⟩ = some (.int .i64 0) := (Row.new w1 (cmC (kindR 0)) 26).cell 0
  go_wp2_with fail
  refine CP.out.mono ?_
  rintro e w2 ⟨rfl, b2⟩
  have K := Lib.hid (TpI.begin (p := p) r1 b1 hg b2)
  clear r1 b1 b2 S0 C1 CP kd1 HKD k0
  obtain ⟨⟨c0, c1, c2, c3, c4⟩, c5, c6, c7, c8⟩ := K.out.out.m
  obtain ⟨p0, p1, p2, p3, p4, p5⟩ := K.out.pt.pt
  have hne := Nat.ne_of_lt K.out.hh
  have hne' := hne.symm
  have la := ld_cm K.out.out
  have s1 := st_cm K.out.res (kindR 0)
  go_wp2_with fail
  (try simp only [Exit.inBlock, Exit.then])
  apply bodyPost_ret
  case hd => rfl
  case hr => exact results_cell_row rfl _ _ w.heap.size 26 _ (0, 0) _ rfl (setRow_heap _ _ _ _ _ _ K.out.res) Tryz.underlying26 rfl (sizeCm _)
  case hR =>
    have F := K.out.fin (cmC (kindR 0))
    exact ⟨kindR 0, rfl, by rw [HT.out], F.1, HFit.out, by rw [HT.out]; exact F.2.1, F.2.2⟩


set_option maxHeartbeats 16000000 in
theorem readCommand2 (w : World) (g : Nat) (s : Sc) (hkd : KdAt w) (hgk : g ≠ 0) (i : RdS w g s) (hk : (numS 8 s).1 = 2) : Calls Tryz.prog 27 #[.pointer (some ⟨g, 0, none⟩)] w (ReadCm g s w) := by
  have hg := i.lt
  have y0 := i.bytes
  rcases h1 : numS 8 s with ⟨v1, s1'⟩
  have hk : v1 = 2 := by rw [h1] at hk; exact hk
  subst hk
  have C1 := Lib.hid (fun W hW => show Calls Tryz.prog 89 #[.pointer (some ⟨g, 0, none⟩), .int .u64 8] W (ReadS g (.int .u64 2) s1' W) by have := rd_num W g s 8 hW (by decide); rwa [h1] at this)
  have y1 : BytesS s1' := by have := numS_bytes y0 8; rwa [h1] at this
  have hmf : ∀ (fn : Fn) (first cap : Array Value) (w : World), (Instr.makeFunc fn first cap).run Tryz.prog w = .ok (.func fn first cap) w := fun _ _ _ _ => rfl
  obtain ⟨p, hpp⟩ : ∃ p, ptOf (2 : Int) = p := ⟨_, rfl⟩
  have CP := Lib.hid (fun W (h : KdAt W) => show Calls Tryz.prog 32 #[.int .i64 2] W (fun e w' => e = .returned (ptV p) ∧ Below W.heap.size W w') by have := partsOf_any 2 W h; unfold PartB at this; rwa [hpp] at this)
  have e_id : p.id = true := by rw [← hpp]; rfl
  have e_ln : p.ln = false := by rw [← hpp]; rfl
  have e_gr : p.gr = false := by rw [← hpp]; rfl
  have e_tot : p.tot = false := by rw [← hpp]; rfl
  have e_yes : p.yes = false := by rw [← hpp]; rfl
  have e_most : p.most = 0 := by rw [← hpp]; rfl
  clear hpp
  have B0 : Below w.heap.size w (w.alloc (.cells (cmC noCmR) 26)) := (Below.refl _ _).alloc (Nat.le_refl _) _
  have S0 := Lib.hid (i.below B0)
  have HKD := Lib.hid (hkd.below B0)
  clear hkd B0
  rcases h2 : textS 32 s1' with ⟨v2, s2⟩
  have C2 := Lib.hid (fun W hW => show Calls Tryz.prog 90 #[.pointer (some ⟨g, 0, none⟩), .int .i64 32] W (ReadS g (.string (strB v2)) s2 W) by have := rd_text W g s1' 32 hW (by decide); rwa [h2] at this)
  have y2 : BytesS s2 := by have := (textS_bytes y1 32).1; rwa [h2] at this
  have z2 : (strB v2).size ≤ 32 := by have := strB_32 y1; rwa [h2] at this
  have HT := Lib.hid (show toldS 96 s = ((⟨2, strB v2, [], ⟨#[]⟩, ⟨#[]⟩, ⟨#[]⟩, 0, 0, false⟩ : Cm), s2) by rw [toldS, h1]; show idS 2 s1' = _; rw [idS, h2]; rfl)
  have HFit : Hid (FitC ⟨2, strB v2, [], ⟨#[]⟩, ⟨#[]⟩, ⟨#[]⟩, 0, 0, false⟩) := Lib.hid ⟨fun x hx => (by cases hx), by simp, z2, empty32, empty32, empty32⟩
  clear h1 y1 h2 y2 z2
  clear i
  go_enter Tryz.func27, Tryz.ntmps27
  go_wp2_with fail
  refine (C1.out _ S0.out).mono ?_
  rintro e w1 ⟨rfl, r1, b1⟩
  have kd1 : KdAt (w1.alloc (.cells (cmC (kindR 2)) 26)) := KdAt.below (KdAt.but HKD.out b1 hgk) ((Below.refl _ _).alloc (Nat.le_refl _) _)
  have CP := Lib.hid (CP.out _ kd1)
  have k0 : (w1.alloc (.cells (cmC (kindR 2)) 26)).cell? ⟨w1.heap.size, 0, none⟩ = some (.int .i64 2) := (Row.new w1 (cmC (kindR 2)) 26).cell 0
  go_wp2_with fail
  refine CP.out.mono ?_
  rintro e w2 ⟨rfl, b2⟩
  have K := Lib.hid (TpI.begin (p := p) r1 b1 hg b2)
  clear r1 b1 b2 S0 C1 CP kd1 HKD k0
  obtain ⟨⟨c0, c1, c2, c3, c4⟩, c5, c6, c7, c8⟩ := K.out.out.m
  obtain ⟨p0, p1, p2, p3, p4, p5⟩ := K.out.pt.pt
  have hne := Nat.ne_of_lt K.out.hh
  have hne' := hne.symm
  go_wp2_with fail
  clear c0 c1 c2 c3 c4 c5 c6 c7 c8 p0 p1 p2 p3 p4 p5
  generalize w2.alloc (.cells (ptC p) 61) = W2 at *
  generalize w2.heap.size = h at *
  generalize w1.heap.size = c at *
  refine (C2.out _ K.out.rd).mono ?_
  rintro e w2 ⟨rfl, r2, b2⟩
  have K := Lib.hid (K.out.call r2 b2)
  clear r2 b2 C2
  obtain ⟨⟨c0, c1, c2, c3, c4⟩, c5, c6, c7, c8⟩ := K.out.out.m
  obtain ⟨p0, p1, p2, p3, p4, p5⟩ := K.out.pt.pt
  have ff := K.out.out.free 1
  have K := Lib.hid (K.out.set 1 (.string (strB v2)) (⟨⟨2, strB v2, [], ⟨#[]⟩, ⟨#[]⟩, ⟨#[]⟩, 0, 0, false⟩, none, 0⟩) rfl ⟨rfl, rfl, rfl⟩)
  have la := ld_cm K.out.out
  have s1 := st_cm K.out.res (⟨⟨2, strB v2, [], ⟨#[]⟩, ⟨#[]⟩, ⟨#[]⟩, 0, 0, false⟩, none, 0⟩)
  go_wp2_with fail
  (try simp only [Exit.inBlock, Exit.then])
  apply bodyPost_ret
  case hd => rfl
  case hr => exact results_cell_row rfl _ _ w.heap.size 26 _ (0, 0) _ rfl (setRow_heap _ _ _ _ _ _ K.out.res) Tryz.underlying26 rfl (sizeCm _)
  case hR =>
    have F := K.out.fin (cmC (⟨⟨2, strB v2, [], ⟨#[]⟩, ⟨#[]⟩, ⟨#[]⟩, 0, 0, false⟩, none, 0⟩))
    exact ⟨⟨⟨2, strB v2, [], ⟨#[]⟩, ⟨#[]⟩, ⟨#[]⟩, 0, 0, false⟩, none, 0⟩, rfl, by rw [HT.out], F.1, HFit.out, by rw [HT.out]; exact F.2.1, F.2.2⟩


set_option maxHeartbeats 16000000 in
theorem readCommand3 (w : World) (g : Nat) (s : Sc) (hkd : KdAt w) (hgk : g ≠ 0) (i : RdS w g s) (hk : (numS 8 s).1 = 3) : Calls Tryz.prog 27 #[.pointer (some ⟨g, 0, none⟩)] w (ReadCm g s w) := by
  have hg := i.lt
  have y0 := i.bytes
  rcases h1 : numS 8 s with ⟨v1, s1'⟩
  have hk : v1 = 3 := by rw [h1] at hk; exact hk
  subst hk
  have C1 := Lib.hid (fun W hW => show Calls Tryz.prog 89 #[.pointer (some ⟨g, 0, none⟩), .int .u64 8] W (ReadS g (.int .u64 3) s1' W) by have := rd_num W g s 8 hW (by decide); rwa [h1] at this)
  have y1 : BytesS s1' := by have := numS_bytes y0 8; rwa [h1] at this
  have hmf : ∀ (fn : Fn) (first cap : Array Value) (w : World), (Instr.makeFunc fn first cap).run Tryz.prog w = .ok (.func fn first cap) w := fun _ _ _ _ => rfl
  obtain ⟨p, hpp⟩ : ∃ p, ptOf (3 : Int) = p := ⟨_, rfl⟩
  have CP := Lib.hid (fun W (h : KdAt W) => show Calls Tryz.prog 32 #[.int .i64 3] W (fun e w' => e = .returned (ptV p) ∧ Below W.heap.size W w') by have := partsOf_any 3 W h; unfold PartB at this; rwa [hpp] at this)
  have e_id : p.id = true := by rw [← hpp]; rfl
  have e_ln : p.ln = false := by rw [← hpp]; rfl
  have e_gr : p.gr = true := by rw [← hpp]; rfl
  have e_tot : p.tot = false := by rw [← hpp]; rfl
  have e_yes : p.yes = false := by rw [← hpp]; rfl
  have e_most : p.most = 0 := by rw [← hpp]; rfl
  clear hpp
  have B0 : Below w.heap.size w (w.alloc (.cells (cmC noCmR) 26)) := (Below.refl _ _).alloc (Nat.le_refl _) _
  have S0 := Lib.hid (i.below B0)
  have HKD := Lib.hid (hkd.below B0)
  clear hkd B0
  rcases h2 : textS 32 s1' with ⟨v2, s2⟩
  have C2 := Lib.hid (fun W hW => show Calls Tryz.prog 90 #[.pointer (some ⟨g, 0, none⟩), .int .i64 32] W (ReadS g (.string (strB v2)) s2 W) by have := rd_text W g s1' 32 hW (by decide); rwa [h2] at this)
  have y2 : BytesS s2 := by have := (textS_bytes y1 32).1; rwa [h2] at this
  have z2 : (strB v2).size ≤ 32 := by have := strB_32 y1; rwa [h2] at this
  rcases h3 : groupS s2 with ⟨⟨t1, t2, t3⟩, s3⟩
  have C3 := Lib.hid (fun W hW => show Calls Tryz.prog 92 #[.pointer (some ⟨g, 0, none⟩)] W (ReadS g (.agg #[.string (strB t1), .string (strB t2), .string (strB t3)]) s3 W) by have := snReadGroup_any W g s2 hW; rwa [h3] at this)
  have y3 : BytesS s3 := by have := groupS_bytes y2; rwa [h3] at this
  obtain ⟨zg1, zg2, zg3⟩ : (strB t1).size ≤ 32 ∧ (strB t2).size ≤ 32 ∧ (strB t3).size ≤ 32 := by have := groupS_32 y2; rw [h3] at this; exact this
  have HT := Lib.hid (show toldS 96 s = ((⟨3, strB v2, [], strB t1, strB t2, strB t3, 0, 0, false⟩ : Cm), s3) by rw [toldS, h1]; show amendS 3 s1' = _; simp only [amendS, h2, h3]; rfl)
  have HFit : Hid (FitC ⟨3, strB v2, [], strB t1, strB t2, strB t3, 0, 0, false⟩) := Lib.hid ⟨fun x hx => (by cases hx), by simp, z2, zg1, zg2, zg3⟩
  clear h1 y1 h2 y2 z2 h3 y3 zg1 zg2 zg3
  clear i
  go_enter Tryz.func27, Tryz.ntmps27
  go_wp2_with fail
  refine (C1.out _ S0.out).mono ?_
  rintro e w1 ⟨rfl, r1, b1⟩
  have kd1 : KdAt (w1.alloc (.cells (cmC (kindR 3)) 26)) := KdAt.below (KdAt.but HKD.out b1 hgk) ((Below.refl _ _).alloc (Nat.le_refl _) _)
  have CP := Lib.hid (CP.out _ kd1)
  have k0 : (w1.alloc (.cells (cmC (kindR 3)) 26)).cell? ⟨w1.heap.size, 0, none⟩ = some (.int .i64 3) := (Row.new w1 (cmC (kindR 3)) 26).cell 0
  go_wp2_with fail
  refine CP.out.mono ?_
  rintro e w2 ⟨rfl, b2⟩
  have K := Lib.hid (TpI.begin (p := p) r1 b1 hg b2)
  clear r1 b1 b2 S0 C1 CP kd1 HKD k0
  obtain ⟨⟨c0, c1, c2, c3, c4⟩, c5, c6, c7, c8⟩ := K.out.out.m
  obtain ⟨p0, p1, p2, p3, p4, p5⟩ := K.out.pt.pt
  have hne := Nat.ne_of_lt K.out.hh
  have hne' := hne.symm
  go_wp2_with fail
  clear c0 c1 c2 c3 c4 c5 c6 c7 c8 p0 p1 p2 p3 p4 p5
  generalize w2.alloc (.cells (ptC p) 61) = W2 at *
  generalize w2.heap.size = h at *
  generalize w1.heap.size = c at *
  refine (C2.out _ K.out.rd).mono ?_
  rintro e w2 ⟨rfl, r2, b2⟩
  have K := Lib.hid (K.out.call r2 b2)
  clear r2 b2 C2
  obtain ⟨⟨c0, c1, c2, c3, c4⟩, c5, c6, c7, c8⟩ := K.out.out.m
  obtain ⟨p0, p1, p2, p3, p4, p5⟩ := K.out.pt.pt
  have ff := K.out.out.free 1
  have K := Lib.hid (K.out.set 1 (.string (strB v2)) (⟨⟨3, strB v2, [], ⟨#[]⟩, ⟨#[]⟩, ⟨#[]⟩, 0, 0, false⟩, none, 0⟩) rfl ⟨rfl, rfl, rfl⟩)
  go_wp2_with fail
  clear c0 c1 c2 c3 c4 c5 c6 c7 c8 p0 p1 p2 p3 p4 p5
  clear ff
  generalize w2.setCell ⟨c, 1, none⟩ (.string (strB v2)) = W2 at *
  refine (C3.out _ K.out.rd).mono ?_
  rintro e w3 ⟨rfl, r2, b2⟩
  have K := Lib.hid (K.out.call r2 b2)
  clear r2 b2 C3
  obtain ⟨⟨c0, c1, c2, c3, c4⟩, c5, c6, c7, c8⟩ := K.out.out.m
  obtain ⟨p0, p1, p2, p3, p4, p5⟩ := K.out.pt.pt
  have ff := K.out.out.free
  have K := Lib.hid (K.out.set 3 (.string (strB t1)) (⟨⟨3, strB v2, [], strB t1, ⟨#[]⟩, ⟨#[]⟩, 0, 0, false⟩, none, 0⟩) rfl ⟨rfl, rfl, rfl⟩)
  have K := Lib.hid (K.out.set 4 (.string (strB t2)) (⟨⟨3, strB v2, [], strB t1, strB t2, ⟨#[]⟩, 0, 0, false⟩, none, 0⟩) rfl ⟨rfl, rfl, rfl⟩)
  have K := Lib.hid (K.out.set 5 (.string (strB t3)) (⟨⟨3, strB v2, [], strB t1, strB t2, strB t3, 0, 0, false⟩, none, 0⟩) rfl ⟨rfl, rfl, rfl⟩)
  have la := ld_cm K.out.out
  have s1 := st_cm K.out.res (⟨⟨3, strB v2, [], strB t1, strB t2, strB t3, 0, 0, false⟩, none, 0⟩)
  go_wp2_with fail
  (try simp only [Exit.inBlock, Exit.then])
  apply bodyPost_ret
  case hd => rfl
  case hr => exact results_cell_row rfl _ _ w.heap.size 26 _ (0, 0) _ rfl (setRow_heap _ _ _ _ _ _ K.out.res) Tryz.underlying26 rfl (sizeCm _)
  case hR =>
    have F := K.out.fin (cmC (⟨⟨3, strB v2, [], strB t1, strB t2, strB t3, 0, 0, false⟩, none, 0⟩))
    exact ⟨⟨⟨3, strB v2, [], strB t1, strB t2, strB t3, 0, 0, false⟩, none, 0⟩, rfl, by rw [HT.out], F.1, HFit.out, by rw [HT.out]; exact F.2.1, F.2.2⟩


set_option maxHeartbeats 16000000 in
theorem readCommand4 (w : World) (g : Nat) (s : Sc) (hkd : KdAt w) (hgk : g ≠ 0) (i : RdS w g s) (hk : (numS 8 s).1 = 4) : Calls Tryz.prog 27 #[.pointer (some ⟨g, 0, none⟩)] w (ReadCm g s w) := by
  have hg := i.lt
  have y0 := i.bytes
  rcases h1 : numS 8 s with ⟨v1, s1'⟩
  have hk : v1 = 4 := by rw [h1] at hk; exact hk
  subst hk
  have C1 := Lib.hid (fun W hW => show Calls Tryz.prog 89 #[.pointer (some ⟨g, 0, none⟩), .int .u64 8] W (ReadS g (.int .u64 4) s1' W) by have := rd_num W g s 8 hW (by decide); rwa [h1] at this)
  have y1 : BytesS s1' := by have := numS_bytes y0 8; rwa [h1] at this
  have hmf : ∀ (fn : Fn) (first cap : Array Value) (w : World), (Instr.makeFunc fn first cap).run Tryz.prog w = .ok (.func fn first cap) w := fun _ _ _ _ => rfl
  obtain ⟨p, hpp⟩ : ∃ p, ptOf (4 : Int) = p := ⟨_, rfl⟩
  have CP := Lib.hid (fun W (h : KdAt W) => show Calls Tryz.prog 32 #[.int .i64 4] W (fun e w' => e = .returned (ptV p) ∧ Below W.heap.size W w') by have := partsOf_any 4 W h; unfold PartB at this; rwa [hpp] at this)
  have e_id : p.id = false := by rw [← hpp]; rfl
  have e_ln : p.ln = false := by rw [← hpp]; rfl
  have e_gr : p.gr = false := by rw [← hpp]; rfl
  have e_tot : p.tot = false := by rw [← hpp]; rfl
  have e_yes : p.yes = false := by rw [← hpp]; rfl
  have e_most : p.most = 96 := by rw [← hpp]; rfl
  clear hpp
  have B0 : Below w.heap.size w (w.alloc (.cells (cmC noCmR) 26)) := (Below.refl _ _).alloc (Nat.le_refl _) _
  have S0 := Lib.hid (i.below B0)
  have HKD := Lib.hid (hkd.below B0)
  clear hkd B0
  rcases h2 : numS 96 s1' with ⟨v2, s2⟩
  have C2 := Lib.hid (fun W hW => show Calls Tryz.prog 89 #[.pointer (some ⟨g, 0, none⟩), .int .u64 96] W (ReadS g (.int .u64 (v2 : Int)) s2 W) by have := rd_num W g s1' 96 hW (by decide); rwa [h2] at this)
  have y2 : BytesS s2 := by have := numS_bytes y1 96; rwa [h2] at this
  have n2 : v2 ≤ 96 := by have := numS_le 96 s1' y1; rwa [h2] at this
  have x2 := i64_small n2 (by decide)
  have HT := Lib.hid (show toldS 96 s = ((⟨4, ⟨#[]⟩, [], ⟨#[]⟩, ⟨#[]⟩, ⟨#[]⟩, 0, (v2 : Int), false⟩ : Cm), s2) by rw [toldS, h1]; show tickS 96 4 s1' = _; rw [tickS, h2]; rfl)
  have HFit : Hid (FitC ⟨4, ⟨#[]⟩, [], ⟨#[]⟩, ⟨#[]⟩, ⟨#[]⟩, 0, (v2 : Int), false⟩) := Lib.hid ⟨fun x hx => (by cases hx), by simp, empty32, empty32, empty32, empty32⟩
  clear h1 y1 h2 y2 n2
  clear i
  go_enter Tryz.func27, Tryz.ntmps27
  go_wp2_with fail
  refine (C1.out _ S0.out).mono ?_
  rintro e w1 ⟨rfl, r1, b1⟩
  have kd1 : KdAt (w1.alloc (.cells (cmC (kindR 4)) 26)) := KdAt.below (KdAt.but HKD.out b1 hgk) ((Below.refl _ _).alloc (Nat.le_refl _) _)
  have CP := Lib.hid (CP.out _ kd1)
  have k0 : (w1.alloc (.cells (cmC (kindR 4)) 26)).cell? ⟨w1.heap.size, 0, none⟩ = some (.int .i64 4) := (Row.new w1 (cmC (kindR 4)) 26).cell 0
  go_wp2_with fail
  refine CP.out.mono ?_
  rintro e w2 ⟨rfl, b2⟩
  have K := Lib.hid (TpI.begin (p := p) r1 b1 hg b2)
  clear r1 b1 b2 S0 C1 CP kd1 HKD k0
  obtain ⟨⟨c0, c1, c2, c3, c4⟩, c5, c6, c7, c8⟩ := K.out.out.m
  obtain ⟨p0, p1, p2, p3, p4, p5⟩ := K.out.pt.pt
  have hne := Nat.ne_of_lt K.out.hh
  have hne' := hne.symm
  go_wp2_with fail
  clear c0 c1 c2 c3 c4 c5 c6 c7 c8 p0 p1 p2 p3 p4 p5
  generalize w2.alloc (.cells (ptC p) 61) = W2 at *
  generalize w2.heap.size = h at *
  generalize w1.heap.size = c at *
  refine (C2.out _ K.out.rd).mono ?_
  rintro e w2 ⟨rfl, r2, b2⟩
  have K := Lib.hid (K.out.call r2 b2)
  clear r2 b2 C2
  obtain ⟨⟨c0, c1, c2, c3, c4⟩, c5, c6, c7, c8⟩ := K.out.out.m
  obtain ⟨p0, p1, p2, p3, p4, p5⟩ := K.out.pt.pt
  have ff := K.out.out.free 7
  have K := Lib.hid (K.out.set 7 (.int .i64 (v2 : Int)) (⟨⟨4, ⟨#[]⟩, [], ⟨#[]⟩, ⟨#[]⟩, ⟨#[]⟩, 0, (v2 : Int), false⟩, none, 0⟩) rfl ⟨rfl, rfl, rfl⟩)
  have la := ld_cm K.out.out
  have s1 := st_cm K.out.res (⟨⟨4, ⟨#[]⟩, [], ⟨#[]⟩, ⟨#[]⟩, ⟨#[]⟩, 0, (v2 : Int), false⟩, none, 0⟩)
  go_wp2_with fail
  (try simp only [Exit.inBlock, Exit.then])
  apply bodyPost_ret
  case hd => rfl
  case hr => exact results_cell_row rfl _ _ w.heap.size 26 _ (0, 0) _ rfl (setRow_heap _ _ _ _ _ _ K.out.res) Tryz.underlying26 rfl (sizeCm _)
  case hR =>
    have F := K.out.fin (cmC (⟨⟨4, ⟨#[]⟩, [], ⟨#[]⟩, ⟨#[]⟩, ⟨#[]⟩, 0, (v2 : Int), false⟩, none, 0⟩))
    exact ⟨⟨⟨4, ⟨#[]⟩, [], ⟨#[]⟩, ⟨#[]⟩, ⟨#[]⟩, 0, (v2 : Int), false⟩, none, 0⟩, rfl, by rw [HT.out], F.1, HFit.out, by rw [HT.out]; exact F.2.1, F.2.2⟩


set_option maxHeartbeats 16000000 in
theorem readCommand5 (w : World) (g : Nat) (s : Sc) (hkd : KdAt w) (hgk : g ≠ 0) (i : RdS w g s) (hk : (numS 8 s).1 = 5) : Calls Tryz.prog 27 #[.pointer (some ⟨g, 0, none⟩)] w (ReadCm g s w) := by
  have hg := i.lt
  have y0 := i.bytes
  rcases h1 : numS 8 s with ⟨v1, s1'⟩
  have hk : v1 = 5 := by rw [h1] at hk; exact hk
  subst hk
  have C1 := Lib.hid (fun W hW => show Calls Tryz.prog 89 #[.pointer (some ⟨g, 0, none⟩), .int .u64 8] W (ReadS g (.int .u64 5) s1' W) by have := rd_num W g s 8 hW (by decide); rwa [h1] at this)
  have y1 : BytesS s1' := by have := numS_bytes y0 8; rwa [h1] at this
  have hmf : ∀ (fn : Fn) (first cap : Array Value) (w : World), (Instr.makeFunc fn first cap).run Tryz.prog w = .ok (.func fn first cap) w := fun _ _ _ _ => rfl
  obtain ⟨p, hpp⟩ : ∃ p, ptOf (5 : Int) = p := ⟨_, rfl⟩
  have CP := Lib.hid (fun W (h : KdAt W) => show Calls Tryz.prog 32 #[.int .i64 5] W (fun e w' => e = .returned (ptV p) ∧ Below W.heap.size W w') by have := partsOf_any 5 W h; unfold PartB at this; rwa [hpp] at this)
  have e_id : p.id = false := by rw [← hpp]; rfl
  have e_ln : p.ln = false := by rw [← hpp]; rfl
  have e_gr : p.gr = false := by rw [← hpp]; rfl
  have e_tot : p.tot = false := by rw [← hpp]; rfl
  have e_yes : p.yes = true := by rw [← hpp]; rfl
  have e_most : p.most = 1000000000000 := by rw [← hpp]; rfl
  clear hpp
  have B0 : Below w.heap.size w (w.alloc (.cells (cmC noCmR) 26)) := (Below.refl _ _).alloc (Nat.le_refl _) _
  have S0 := Lib.hid (i.below B0)
  have HKD := Lib.hid (hkd.below B0)
  clear hkd B0
  rcases h2 : numS 1000000000000 s1' with ⟨v2, s2⟩
  have C2 := Lib.hid (fun W hW => show Calls Tryz.prog 89 #[.pointer (some ⟨g, 0, none⟩), .int .u64 1000000000000] W (ReadS g (.int .u64 (v2 : Int)) s2 W) by have := rd_num W g s1' 1000000000000 hW (by decide); rwa [h2] at this)
  have y2 : BytesS s2 := by have := numS_bytes y1 1000000000000; rwa [h2] at this
  have n2 : v2 ≤ 1000000000000 := by have := numS_le 1000000000000 s1' y1; rwa [h2] at this
  have x2 := i64_small n2 (by decide)
  rcases h3 : numS 1 s2 with ⟨v3, s3⟩
  have C3 := Lib.hid (fun W hW => show Calls Tryz.prog 89 #[.pointer (some ⟨g, 0, none⟩), .int .u64 1] W (ReadS g (.int .u64 (v3 : Int)) s3 W) by have := rd_num W g s2 1 hW (by decide); rwa [h3] at this)
  have y3 : BytesS s3 := by have := numS_bytes y2 1; rwa [h3] at this
  have n3 : v3 ≤ 1 := by have := numS_le 1 s2 y2; rwa [h3] at this
  have x3 := i64_small n3 (by decide)
  have HT := Lib.hid (show toldS 96 s = ((⟨5, ⟨#[]⟩, [], ⟨#[]⟩, ⟨#[]⟩, ⟨#[]⟩, 0, (v2 : Int), decide (v3 = 1)⟩ : Cm), s3) by rw [toldS, h1]; show replyS 5 s1' = _; simp only [replyS, h2, h3]; rfl)
  have HFit : Hid (FitC ⟨5, ⟨#[]⟩, [], ⟨#[]⟩, ⟨#[]⟩, ⟨#[]⟩, 0, (v2 : Int), decide (v3 = 1)⟩) := Lib.hid ⟨fun x hx => (by cases hx), by simp, empty32, empty32, empty32, empty32⟩
  have e3 : ((v3 : Int) == 1) = decide (v3 = 1) := by rw [Bool.eq_iff_iff]; simp; omega
  clear h1 y1 h2 y2 n2 h3 y3 n3
  clear i
  go_enter Tryz.func27, Tryz.ntmps27
  go_wp2_with fail
  refine (C1.out _ S0.out).mono ?_
  rintro e w1 ⟨rfl, r1, b1⟩
  have kd1 : KdAt (w1.alloc (.cells (cmC (kindR 5)) 26)) := KdAt.below (KdAt.but HKD.out b1 hgk) ((Below.refl _ _).alloc (Nat.le_refl _) _)
  have CP := Lib.hid (CP.out _ kd1)
  have k0 : (w1.alloc (.cells (cmC (kindR 5)) 26)).cell? ⟨w1.heap.size, 0, none⟩ = some (.int .i64 5) := (Row.new w1 (cmC (kindR 5)) 26).cell 0
  go_wp2_with fail
  refine CP.out.mono ?_
  rintro e w2 ⟨rfl, b2⟩
  have K := Lib.hid (TpI.begin (p := p) r1 b1 hg b2)
  clear r1 b1 b2 S0 C1 CP kd1 HKD k0
  obtain ⟨⟨c0, c1, c2, c3, c4⟩, c5, c6, c7, c8⟩ := K.out.out.m
  obtain ⟨p0, p1, p2, p3, p4, p5⟩ := K.out.pt.pt
  have hne := Nat.ne_of_lt K.out.hh
  have hne' := hne.symm
  go_wp2_with fail
  clear c0 c1 c2 c3 c4 c5 c6 c7 c8 p0 p1 p2 p3 p4 p5
  generalize w2.alloc (.cells (ptC p) 61) = W2 at *
  generalize w2.heap.size = h at *
  generalize w1.heap.size = c at *
  refine (C2.out _ K.out.rd).mono ?_
  rintro e w2 ⟨rfl, r2, b2⟩
  have K := Lib.hid (K.out.call r2 b2)
  clear r2 b2 C2
  obtain ⟨⟨c0, c1, c2, c3, c4⟩, c5, c6, c7, c8⟩ := K.out.out.m
  obtain ⟨p0, p1, p2, p3, p4, p5⟩ := K.out.pt.pt
  have ff := K.out.out.free 7
  have K := Lib.hid (K.out.set 7 (.int .i64 (v2 : Int)) (⟨⟨5, ⟨#[]⟩, [], ⟨#[]⟩, ⟨#[]⟩, ⟨#[]⟩, 0, (v2 : Int), false⟩, none, 0⟩) rfl ⟨rfl, rfl, rfl⟩)
  go_wp2_with fail
  clear c0 c1 c2 c3 c4 c5 c6 c7 c8 p0 p1 p2 p3 p4 p5
  clear ff
  generalize w2.setCell ⟨c, 7, none⟩ (.int .i64 (v2 : Int)) = W2 at *
  refine (C3.out _ K.out.rd).mono ?_
  rintro e w3 ⟨rfl, r2, b2⟩
  have K := Lib.hid (K.out.call r2 b2)
  clear r2 b2 C3
  obtain ⟨⟨c0, c1, c2, c3, c4⟩, c5, c6, c7, c8⟩ := K.out.out.m
  obtain ⟨p0, p1, p2, p3, p4, p5⟩ := K.out.pt.pt
  have ff := K.out.out.free 8
  have K := Lib.hid (K.out.set 8 (.bool (decide (v3 = 1))) (⟨⟨5, ⟨#[]⟩, [], ⟨#[]⟩, ⟨#[]⟩, ⟨#[]⟩, 0, (v2 : Int), decide (v3 = 1)⟩, none, 0⟩) rfl ⟨rfl, rfl, rfl⟩)
  have la := ld_cm K.out.out
  have s1 := st_cm K.out.res (⟨⟨5, ⟨#[]⟩, [], ⟨#[]⟩, ⟨#[]⟩, ⟨#[]⟩, 0, (v2 : Int), decide (v3 = 1)⟩, none, 0⟩)
  go_wp2_with fail
  (try simp only [Exit.inBlock, Exit.then])
  apply bodyPost_ret
  case hd => rfl
  case hr => exact results_cell_row rfl _ _ w.heap.size 26 _ (0, 0) _ rfl (setRow_heap _ _ _ _ _ _ K.out.res) Tryz.underlying26 rfl (sizeCm _)
  case hR =>
    have F := K.out.fin (cmC (⟨⟨5, ⟨#[]⟩, [], ⟨#[]⟩, ⟨#[]⟩, ⟨#[]⟩, 0, (v2 : Int), decide (v3 = 1)⟩, none, 0⟩))
    exact ⟨⟨⟨5, ⟨#[]⟩, [], ⟨#[]⟩, ⟨#[]⟩, ⟨#[]⟩, 0, (v2 : Int), decide (v3 = 1)⟩, none, 0⟩, rfl, by rw [HT.out], F.1, HFit.out, by rw [HT.out]; exact F.2.1, F.2.2⟩


set_option maxHeartbeats 16000000 in
theorem readCommand6 (w : World) (g : Nat) (s : Sc) (hkd : KdAt w) (hgk : g ≠ 0) (i : RdS w g s) (hk : (numS 8 s).1 = 6) : Calls Tryz.prog 27 #[.pointer (some ⟨g, 0, none⟩)] w (ReadCm g s w) := by
  have hg := i.lt
  have y0 := i.bytes
  rcases h1 : numS 8 s with ⟨v1, s1'⟩
  have hk : v1 = 6 := by rw [h1] at hk; exact hk
  subst hk
  have C1 := Lib.hid (fun W hW => show Calls Tryz.prog 89 #[.pointer (some ⟨g, 0, none⟩), .int .u64 8] W (ReadS g (.int .u64 6) s1' W) by have := rd_num W g s 8 hW (by decide); rwa [h1] at this)
  have y1 : BytesS s1' := by have := numS_bytes y0 8; rwa [h1] at this
  have hmf : ∀ (fn : Fn) (first cap : Array Value) (w : World), (Instr.makeFunc fn first cap).run Tryz.prog w = .ok (.func fn first cap) w := fun _ _ _ _ => rfl
  obtain ⟨p, hpp⟩ : ∃ p, ptOf (6 : Int) = p := ⟨_, rfl⟩
  have CP := Lib.hid (fun W (h : KdAt W) => show Calls Tryz.prog 32 #[.int .i64 6] W (fun e w' => e = .returned (ptV p) ∧ Below W.heap.size W w') by have := partsOf_any 6 W h; unfold PartB at this; rwa [hpp] at this)
  have e_id : p.id = false := by rw [← hpp]; rfl
  have e_ln : p.ln = false := by rw [← hpp]; rfl
  have e_gr : p.gr = false := by rw [← hpp]; rfl
  have e_tot : p.tot = false := by rw [← hpp]; rfl
  have e_yes : p.yes = false := by rw [← hpp]; rfl
  have e_most : p.most = 0 := by rw [← hpp]; rfl
  clear hpp
  have B0 : Below w.heap.size w (w.alloc (.cells (cmC noCmR) 26)) := (Below.refl _ _).alloc (Nat.le_refl _) _
  have S0 := Lib.hid (i.below B0)
  have HKD := Lib.hid (hkd.below B0)
  clear hkd B0
  have HT := Lib.hid (show toldS 96 s = ((kindR 6).m, s1') by rw [toldS, h1]; rfl)
  have HFit : Hid (FitC (kindR 6).m) := Lib.hid ⟨fun x hx => (by cases hx), by decide, by decide, by decide, by decide, by decide⟩
  clear h1 y1
  clear i
  go_enter Tryz.func27, Tryz.ntmps27
  go_wp2_with fail
  refine (C1.out _ S0.out).mono ?_
  rintro e w1 ⟨rfl, r1, b1⟩
  have kd1 : KdAt (w1.alloc (.cells (cmC (kindR 6)) 26)) := KdAt.below (KdAt.but HKD.out b1 hgk) ((Below.refl _ _).alloc (Nat.le_refl _) _)
  have CP := Lib.hid (CP.out _ kd1)
  have k0 : (w1.alloc (.cells (cmC (kindR 6)) 26)).cell? ⟨w1.heap.size, 0, none⟩ = some (.int .i64 6) := (Row.new w1 (cmC (kindR 6)) 26).cell 0
  go_wp2_with fail
  refine CP.out.mono ?_
  rintro e w2 ⟨rfl, b2⟩
  have K := Lib.hid (TpI.begin (p := p) r1 b1 hg b2)
  clear r1 b1 b2 S0 C1 CP kd1 HKD k0
  obtain ⟨⟨c0, c1, c2, c3, c4⟩, c5, c6, c7, c8⟩ := K.out.out.m
  obtain ⟨p0, p1, p2, p3, p4, p5⟩ := K.out.pt.pt
  have hne := Nat.ne_of_lt K.out.hh
  have hne' := hne.symm
  have la := ld_cm K.out.out
  have s1 := st_cm K.out.res (kindR 6)
  go_wp2_with fail
  (try simp only [Exit.inBlock, Exit.then])
  apply bodyPost_ret
  case hd => rfl
  case hr => exact results_cell_row rfl _ _ w.heap.size 26 _ (0, 0) _ rfl (setRow_heap _ _ _ _ _ _ K.out.res) Tryz.underlying26 rfl (sizeCm _)
  case hR =>
    have F := K.out.fin (cmC (kindR 6))
    exact ⟨kindR 6, rfl, by rw [HT.out], F.1, HFit.out, by rw [HT.out]; exact F.2.1, F.2.2⟩


set_option maxHeartbeats 16000000 in
theorem readCommand7 (w : World) (g : Nat) (s : Sc) (hkd : KdAt w) (hgk : g ≠ 0) (i : RdS w g s) (hk : (numS 8 s).1 = 7) : Calls Tryz.prog 27 #[.pointer (some ⟨g, 0, none⟩)] w (ReadCm g s w) := by
  have hg := i.lt
  have y0 := i.bytes
  rcases h1 : numS 8 s with ⟨v1, s1'⟩
  have hk : v1 = 7 := by rw [h1] at hk; exact hk
  subst hk
  have C1 := Lib.hid (fun W hW => show Calls Tryz.prog 89 #[.pointer (some ⟨g, 0, none⟩), .int .u64 8] W (ReadS g (.int .u64 7) s1' W) by have := rd_num W g s 8 hW (by decide); rwa [h1] at this)
  have y1 : BytesS s1' := by have := numS_bytes y0 8; rwa [h1] at this
  have hmf : ∀ (fn : Fn) (first cap : Array Value) (w : World), (Instr.makeFunc fn first cap).run Tryz.prog w = .ok (.func fn first cap) w := fun _ _ _ _ => rfl
  obtain ⟨p, hpp⟩ : ∃ p, ptOf (7 : Int) = p := ⟨_, rfl⟩
  have CP := Lib.hid (fun W (h : KdAt W) => show Calls Tryz.prog 32 #[.int .i64 7] W (fun e w' => e = .returned (ptV p) ∧ Below W.heap.size W w') by have := partsOf_any 7 W h; unfold PartB at this; rwa [hpp] at this)
  have e_id : p.id = false := by rw [← hpp]; rfl
  have e_ln : p.ln = false := by rw [← hpp]; rfl
  have e_gr : p.gr = false := by rw [← hpp]; rfl
  have e_tot : p.tot = false := by rw [← hpp]; rfl
  have e_yes : p.yes = false := by rw [← hpp]; rfl
  have e_most : p.most = 0 := by rw [← hpp]; rfl
  clear hpp
  have B0 : Below w.heap.size w (w.alloc (.cells (cmC noCmR) 26)) := (Below.refl _ _).alloc (Nat.le_refl _) _
  have S0 := Lib.hid (i.below B0)
  have HKD := Lib.hid (hkd.below B0)
  clear hkd B0
  have HT := Lib.hid (show toldS 96 s = ((kindR 7).m, s1') by rw [toldS, h1]; rfl)
  have HFit : Hid (FitC (kindR 7).m) := Lib.hid ⟨fun x hx => (by cases hx), by decide, by decide, by decide, by decide, by decide⟩
  clear h1 y1
  clear i
  go_enter Tryz.func27, Tryz.ntmps27
  go_wp2_with fail
  refine (C1.out _ S0.out).mono ?_
  rintro e w1 ⟨rfl, r1, b1⟩
  have kd1 : KdAt (w1.alloc (.cells (cmC (kindR 7)) 26)) := KdAt.below (KdAt.but HKD.out b1 hgk) ((Below.refl _ _).alloc (Nat.le_refl _) _)
  have CP := Lib.hid (CP.out _ kd1)
  have k0 : (w1.alloc (.cells (cmC (kindR 7)) 26)).cell? ⟨w1.heap.size, 0, none⟩ = some (.int .i64 7) := (Row.new w1 (cmC (kindR 7)) 26).cell 0
  go_wp2_with fail
  refine CP.out.mono ?_
  rintro e w2 ⟨rfl, b2⟩
  have K := Lib.hid (TpI.begin (p := p) r1 b1 hg b2)
  clear r1 b1 b2 S0 C1 CP kd1 HKD k0
  obtain ⟨⟨c0, c1, c2, c3, c4⟩, c5, c6, c7, c8⟩ := K.out.out.m
  obtain ⟨p0, p1, p2, p3, p4, p5⟩ := K.out.pt.pt
  have hne := Nat.ne_of_lt K.out.hh
  have hne' := hne.symm
  have la := ld_cm K.out.out
  have s1 := st_cm K.out.res (kindR 7)
  go_wp2_with fail
  (try simp only [Exit.inBlock, Exit.then])
  apply bodyPost_ret
  case hd => rfl
  case hr => exact results_cell_row rfl _ _ w.heap.size 26 _ (0, 0) _ rfl (setRow_heap _ _ _ _ _ _ K.out.res) Tryz.underlying26 rfl (sizeCm _)
  case hR =>
    have F := K.out.fin (cmC (kindR 7))
    exact ⟨kindR 7, rfl, by rw [HT.out], F.1, HFit.out, by rw [HT.out]; exact F.2.1, F.2.2⟩


set_option maxHeartbeats 16000000 in
theorem readCommand8 (w : World) (g : Nat) (s : Sc) (hkd : KdAt w) (hgk : g ≠ 0) (i : RdS w g s) (hk : (numS 8 s).1 = 8) : Calls Tryz.prog 27 #[.pointer (some ⟨g, 0, none⟩)] w (ReadCm g s w) := by
  have hg := i.lt
  have y0 := i.bytes
  rcases h1 : numS 8 s with ⟨v1, s1'⟩
  have hk : v1 = 8 := by rw [h1] at hk; exact hk
  subst hk
  have C1 := Lib.hid (fun W hW => show Calls Tryz.prog 89 #[.pointer (some ⟨g, 0, none⟩), .int .u64 8] W (ReadS g (.int .u64 8) s1' W) by have := rd_num W g s 8 hW (by decide); rwa [h1] at this)
  have y1 : BytesS s1' := by have := numS_bytes y0 8; rwa [h1] at this
  have hmf : ∀ (fn : Fn) (first cap : Array Value) (w : World), (Instr.makeFunc fn first cap).run Tryz.prog w = .ok (.func fn first cap) w := fun _ _ _ _ => rfl
  obtain ⟨p, hpp⟩ : ∃ p, ptOf (8 : Int) = p := ⟨_, rfl⟩
  have CP := Lib.hid (fun W (h : KdAt W) => show Calls Tryz.prog 32 #[.int .i64 8] W (fun e w' => e = .returned (ptV p) ∧ Below W.heap.size W w') by have := partsOf_any 8 W h; unfold PartB at this; rwa [hpp] at this)
  have e_id : p.id = true := by rw [← hpp]; rfl
  have e_ln : p.ln = false := by rw [← hpp]; rfl
  have e_gr : p.gr = false := by rw [← hpp]; rfl
  have e_tot : p.tot = false := by rw [← hpp]; rfl
  have e_yes : p.yes = false := by rw [← hpp]; rfl
  have e_most : p.most = 0 := by rw [← hpp]; rfl
  clear hpp
  have B0 : Below w.heap.size w (w.alloc (.cells (cmC noCmR) 26)) := (Below.refl _ _).alloc (Nat.le_refl _) _
  have S0 := Lib.hid (i.below B0)
  have HKD := Lib.hid (hkd.below B0)
  clear hkd B0
  rcases h2 : textS 32 s1' with ⟨v2, s2⟩
  have C2 := Lib.hid (fun W hW => show Calls Tryz.prog 90 #[.pointer (some ⟨g, 0, none⟩), .int .i64 32] W (ReadS g (.string (strB v2)) s2 W) by have := rd_text W g s1' 32 hW (by decide); rwa [h2] at this)
  have y2 : BytesS s2 := by have := (textS_bytes y1 32).1; rwa [h2] at this
  have z2 : (strB v2).size ≤ 32 := by have := strB_32 y1; rwa [h2] at this
  have HT := Lib.hid (show toldS 96 s = ((⟨8, strB v2, [], ⟨#[]⟩, ⟨#[]⟩, ⟨#[]⟩, 0, 0, false⟩ : Cm), s2) by rw [toldS, h1]; show idS 8 s1' = _; rw [idS, h2]; rfl)
  have HFit : Hid (FitC ⟨8, strB v2, [], ⟨#[]⟩, ⟨#[]⟩, ⟨#[]⟩, 0, 0, false⟩) := Lib.hid ⟨fun x hx => (by cases hx), by simp, z2, empty32, empty32, empty32⟩
  clear h1 y1 h2 y2 z2
  clear i
  go_enter Tryz.func27, Tryz.ntmps27
  go_wp2_with fail
  refine (C1.out _ S0.out).mono ?_
  rintro e w1 ⟨rfl, r1, b1⟩
  have kd1 : KdAt (w1.alloc (.cells (cmC (kindR 8)) 26)) := KdAt.below (KdAt.but HKD.out b1 hgk) ((Below.refl _ _).alloc (Nat.le_refl _) _)
  have CP := Lib.hid (CP.out _ kd1)
  have k0 : (w1.alloc (.cells (cmC (kindR 8)) 26)).cell? ⟨w1.heap.size, 0, none⟩ = some (.int .i64 8) := (Row.new w1 (cmC (kindR 8)) 26).cell 0
  go_wp2_with fail
  refine CP.out.mono ?_
  rintro e w2 ⟨rfl, b2⟩
  have K := Lib.hid (TpI.begin (p := p) r1 b1 hg b2)
  clear r1 b1 b2 S0 C1 CP kd1 HKD k0
  obtain ⟨⟨c0, c1, c2, c3, c4⟩, c5, c6, c7, c8⟩ := K.out.out.m
  obtain ⟨p0, p1, p2, p3, p4, p5⟩ := K.out.pt.pt
  have hne := Nat.ne_of_lt K.out.hh
  have hne' := hne.symm
  go_wp2_with fail
  clear c0 c1 c2 c3 c4 c5 c6 c7 c8 p0 p1 p2 p3 p4 p5
  generalize w2.alloc (.cells (ptC p) 61) = W2 at *
  generalize w2.heap.size = h at *
  generalize w1.heap.size = c at *
  refine (C2.out _ K.out.rd).mono ?_
  rintro e w2 ⟨rfl, r2, b2⟩
  have K := Lib.hid (K.out.call r2 b2)
  clear r2 b2 C2
  obtain ⟨⟨c0, c1, c2, c3, c4⟩, c5, c6, c7, c8⟩ := K.out.out.m
  obtain ⟨p0, p1, p2, p3, p4, p5⟩ := K.out.pt.pt
  have ff := K.out.out.free 1
  have K := Lib.hid (K.out.set 1 (.string (strB v2)) (⟨⟨8, strB v2, [], ⟨#[]⟩, ⟨#[]⟩, ⟨#[]⟩, 0, 0, false⟩, none, 0⟩) rfl ⟨rfl, rfl, rfl⟩)
  have la := ld_cm K.out.out
  have s1 := st_cm K.out.res (⟨⟨8, strB v2, [], ⟨#[]⟩, ⟨#[]⟩, ⟨#[]⟩, 0, 0, false⟩, none, 0⟩)
  go_wp2_with fail
  (try simp only [Exit.inBlock, Exit.then])
  apply bodyPost_ret
  case hd => rfl
  case hr => exact results_cell_row rfl _ _ w.heap.size 26 _ (0, 0) _ rfl (setRow_heap _ _ _ _ _ _ K.out.res) Tryz.underlying26 rfl (sizeCm _)
  case hR =>
    have F := K.out.fin (cmC (⟨⟨8, strB v2, [], ⟨#[]⟩, ⟨#[]⟩, ⟨#[]⟩, 0, 0, false⟩, none, 0⟩))
    exact ⟨⟨⟨8, strB v2, [], ⟨#[]⟩, ⟨#[]⟩, ⟨#[]⟩, 0, 0, false⟩, none, 0⟩, rfl, by rw [HT.out], F.1, HFit.out, by rw [HT.out]; exact F.2.1, F.2.2⟩


set_option maxHeartbeats 16000000 in
theorem readCommand1 (w : World) (g : Nat) (s : Sc) (hkd : KdAt w) (hgk : g ≠ 0) (i : RdS w g s) (hk : (numS 8 s).1 = 1) : Calls Tryz.prog 27 #[.pointer (some ⟨g, 0, none⟩)] w (ReadCm g s w) := by
  have hg := i.lt
  have y0 := i.bytes
  rcases h1 : numS 8 s with ⟨v1, s1'⟩
  have hk : v1 = 1 := by rw [h1] at hk; exact hk
  subst hk
  have C1 := Lib.hid (fun W hW => show Calls Tryz.prog 89 #[.pointer (some ⟨g, 0, none⟩), .int .u64 8] W (ReadS g (.int .u64 1) s1' W) by have := rd_num W g s 8 hW (by decide); rwa [h1] at this)
  have y1 : BytesS s1' := by have := numS_bytes y0 8; rwa [h1] at this
  have hmf : ∀ (fn : Fn) (first cap : Array Value) (w : World), (Instr.makeFunc fn first cap).run Tryz.prog w = .ok (.func fn first cap) w := fun _ _ _ _ => rfl
  obtain ⟨p, hpp⟩ : ∃ p, ptOf (1 : Int) = p := ⟨_, rfl⟩
  have CP := Lib.hid (fun W (h : KdAt W) => show Calls Tryz.prog 32 #[.int .i64 1] W (fun e w' => e = .returned (ptV p) ∧ Below W.heap.size W w') by have := partsOf_any 1 W h; unfold PartB at this; rwa [hpp] at this)
  have e_id : p.id = true := by rw [← hpp]; rfl
  have e_ln : p.ln = true := by rw [← hpp]; rfl
  have e_gr : p.gr = true := by rw [← hpp]; rfl
  have e_tot : p.tot = true := by rw [← hpp]; rfl
  have e_yes : p.yes = false := by rw [← hpp]; rfl
  have e_most : p.most = 0 := by rw [← hpp]; rfl
  clear hpp
  have B0 : Below w.heap.size w (w.alloc (.cells (cmC noCmR) 26)) := (Below.refl _ _).alloc (Nat.le_refl _) _
  have S0 := Lib.hid (i.below B0)
  have HKD := Lib.hid (hkd.below B0)
  clear hkd B0
  rcases h2 : textS 32 s1' with ⟨v2, s2⟩
  have C2 := Lib.hid (fun W hW => show Calls Tryz.prog 90 #[.pointer (some ⟨g, 0, none⟩), .int .i64 32] W (ReadS g (.string (strB v2)) s2 W) by have := rd_text W g s1' 32 hW (by decide); rwa [h2] at this)
  have y2 : BytesS s2 := by have := (textS_bytes y1 32).1; rwa [h2] at this
  have z2 : (strB v2).size ≤ 32 := by have := strB_32 y1; rwa [h2] at this
  rcases h3 : numS 8 s2 with ⟨v3, s3⟩
  have C3 := Lib.hid (fun W hW => show Calls Tryz.prog 89 #[.pointer (some ⟨g, 0, none⟩), .int .u64 8] W (ReadS g (.int .u64 (v3 : Int)) s3 W) by have := rd_num W g s2 8 hW (by decide); rwa [h3] at this)
  have y3 : BytesS s3 := by have := numS_bytes y2 8; rwa [h3] at this
  have n3 : v3 ≤ 8 := by have := numS_le 8 s2 y2; rwa [h3] at this
  have x3 := i64_small n3 (by decide)
  have H1 := Lib.hid h1
  have H2 := Lib.hid h2
  have H3 := Lib.hid h3
  have Y3 := Lib.hid y3
  clear h1 y1 h2 y2 h3 y3
  clear i
  go_enter Tryz.func27, Tryz.ntmps27
  go_wp2_with fail
  refine (C1.out _ S0.out).mono ?_
  rintro e w1 ⟨rfl, r1, b1⟩
  have kd1 : KdAt (w1.alloc (.cells (cmC (kindR 1)) 26)) := KdAt.below (KdAt.but HKD.out b1 hgk) ((Below.refl _ _).alloc (Nat.le_refl _) _)
  have CP := Lib.hid (CP.out _ kd1)
  have k0 : (w1.alloc (.cells (cmC (kindR 1)) 26)).cell? ⟨w1.heap.size, 0, none⟩ = some (.int .i64 1) := (Row.new w1 (cmC (kindR 1)) 26).cell 0
  go_wp2_with fail
  refine CP.out.mono ?_
  rintro e w2 ⟨rfl, b2⟩
  have K := Lib.hid (TpI.begin (p := p) r1 b1 hg b2)
  clear r1 b1 b2 S0 C1 CP kd1 HKD k0
  obtain ⟨⟨c0, c1, c2, c3, c4⟩, c5, c6, c7, c8⟩ := K.out.out.m
  obtain ⟨p0, p1, p2, p3, p4, p5⟩ := K.out.pt.pt
  have hne := Nat.ne_of_lt K.out.hh
  have hne' := hne.symm
  go_wp2_with fail
  clear c0 c1 c2 c3 c4 c5 c6 c7 c8 p0 p1 p2 p3 p4 p5
  generalize w2.alloc (.cells (ptC p) 61) = W2 at *
  generalize w2.heap.size = h at *
  generalize w1.heap.size = c at *
  refine (C2.out _ K.out.rd).mono ?_
  rintro e w2 ⟨rfl, r2, b2⟩
  have K := Lib.hid (K.out.call r2 b2)
  clear r2 b2 C2
  obtain ⟨⟨c0, c1, c2, c3, c4⟩, c5, c6, c7, c8⟩ := K.out.out.m
  obtain ⟨p0, p1, p2, p3, p4, p5⟩ := K.out.pt.pt
  have ff := K.out.out.free 1
  have K := Lib.hid (K.out.set 1 (.string (strB v2)) (⟨⟨1, strB v2, [], ⟨#[]⟩, ⟨#[]⟩, ⟨#[]⟩, 0, 0, false⟩, none, 0⟩) rfl ⟨rfl, rfl, rfl⟩)
  go_wp2_with fail
  clear c0 c1 c2 c3 c4 c5 c6 c7 c8 p0 p1 p2 p3 p4 p5
  clear ff
  generalize w2.setCell ⟨c, 1, none⟩ (.string (strB v2)) = W2 at *
  refine (C3.out _ K.out.rd).mono ?_
  rintro e w3 ⟨rfl, r2, b2⟩
  have K := Lib.hid (K.out.call r2 b2)
  clear r2 b2 C3
  obtain ⟨⟨c0, c1, c2, c3, c4⟩, c5, c6, c7, c8⟩ := K.out.out.m
  obtain ⟨p0, p1, p2, p3, p4, p5⟩ := K.out.pt.pt
  go_wp2_with fail
  clear c0 c1 c2 c3 c4 c5 c6 c7 c8 p0 p1 p2 p3 p4 p5
  go_loopw [24] (fun i wr => ∃ (k : Nat) (acc : List Ln) (av : Option Addr) (cv : Nat) (sk : Sc), k ≤ v3 ∧ i = .int .u64 k ∧ Hid (TpI w g c h (⟨⟨1, strB v2, acc, ⟨#[]⟩, ⟨#[]⟩, ⟨#[]⟩, 0, 0, false⟩, av, cv⟩ : CmR) p sk wr) ∧ acc.length = k ∧ Hid (BytesS sk) ∧ Hid (linesS v3 s3 = (acc ++ (linesS (v3 - k) sk).1, (linesS (v3 - k) sk).2))) (fun i _ => v3 - (intOf i).toNat)
  case atStart => exact ⟨0, [], none, 0, s3, Nat.zero_le _, rfl, K, rfl, Y3, Lib.hid (by simp)⟩
  case round =>
    clear K
    obtain ⟨k, acc, av, cv, sk, hk, rfl, K, hac, HB, HL⟩ := hrel
    by_cases hlt : k < v3
    · rcases hx : lineS sk with ⟨x, sx⟩
      have hsx : BytesS sx := by have := lineS_bytes HB.out; rwa [hx] at this
      have hsz : x.sku.size ≤ 32 := by have := lineS_sku HB.out; rwa [hx] at this
      have HN := Lib.hid (show linesS v3 s3 = ((acc ++ [x]) ++ (linesS (v3 - (k + 1)) sx).1, (linesS (v3 - (k + 1)) sx).2) by
        rw [HL.out, show v3 - k = (v3 - (k + 1)) + 1 by omega, linesS, hx]; simp)
      have HX := Lib.hid hsx
      have HK1 := Lib.hid (show (acc ++ [x]).length = k + 1 by rw [List.length_append, hac]; rfl)
      have HZ := Lib.hid (show x.sku.size ≤ maxLen by unfold maxLen; omega)
      have C := Lib.hid (fun W hW => show Calls Tryz.prog 91 #[.pointer (some ⟨g, 0, none⟩)] W (ReadS g (lineV x) sx W) by have := snReadLine_any W g sk hW; rwa [hx] at this)
      clear hx hsx hsz
      unfold lineV at C
      have hck := K.out.hh
      have hcg := K.out.hg
      have hcc := K.out.hc
      have RW := Lib.hid (K.out.k.far (Nat.lt_succ_self h) (But.drew _ _))
      have OW : Hid (OwnL wr.drew (h + 1) (.slice av k cv) acc) := Lib.hid (by have := K.out.own.grown (w' := wr.drew) fun _ _ _ => rfl; dsimp only at this; rwa [hac] at this)
      have c2 : wr.cell? ⟨c, 2, none⟩ = some (.slice av k cv) := by have := K.out.out.m.1.2.2.1; dsimp only at this; rwa [hac] at this
      have vd : wr.drew.cell? ⟨c, 2, none⟩ = some (.slice av k cv) := by have := RW.out.out.m.1.2.2.1; dsimp only at this; rwa [hac] at this
      go_wp2_with fail
      go_region_law (first
        | (go_simp; go_at_call 91; refine (C.out _ RW.out.rd).mono ?_; rintro e w4 ⟨rfl, r4, b4⟩; have R4 := Lib.hid (RW.out.call r4 b4); have O4 := Lib.hid (OW.out.grown (w' := w4) fun k h1 h2 => b4.block k h2 (by omega)); have y1 : w4.cell? ⟨c, 2, none⟩ = some (.slice av k cv) := (by have := R4.out.out.m.1.2.2.1; dsimp only at this; rwa [hac] at this); have yz := R4.out.pt.lt; have yc := R4.out.out.lt; clear r4 b4)
        | (refine step_append_lines rfl (.tmp 27) (.tmp 30) rfl (h + 1) (.slice av k cv) acc [x] (by simp [Act.eval]) (O4.out.below ((Below.refl _ _).alloc (Nat.le_refl _) _)) (some ⟨w4.heap.size, 0, none⟩) 1 (by simp [Act.eval]) (one_line w4 x HZ.out) (by simp; omega) (by have := R4.out.pt.lt; simp; omega) ?_; intro v5 w5 o5 g5; obtain ⟨a5, p5, e5⟩ := o5.shape; rw [HK1.out] at e5; subst e5; obtain ⟨q, hq, bq⟩ := But.grown g5 O4.out.row; have R5 := Lib.hid ((R4.out.far (Nat.lt_succ_self h) (But.alloc _ _ _)).far hq bq); have O5 := Lib.hid o5; have z1 : w5.cell? ⟨c, 2, none⟩ = some (.slice av k cv) := (by have := R5.out.out.m.1.2.2.1; dsimp only at this; rwa [hac] at this); have zf : w5.frozen? ⟨c, 2, none⟩ = false := R5.out.out.free 2; clear o5 g5 bq))
      all_goals
        have R6 := Lib.hid (R5.out.lines (o' := ⟨⟨1, strB v2, (acc ++ [x]), ⟨#[]⟩, ⟨#[]⟩, ⟨#[]⟩, 0, 0, false⟩, a5, p5⟩) HK1.out O5.out rfl)
        go_wp2_with fail
        go_roundw
        case rel => exact ⟨k + 1, acc ++ [x], a5, p5, sx, by omega, by go_num, R6, HK1.out, HX, HN⟩
        case measure => simp [intOf]; omega
    · have HE := Lib.hid (show linesS v3 s3 = (acc, sk) by rw [HL.out, show v3 - k = 0 by omega, linesS]; simp)
      subst hac
      have yk := HB.out
      rcases h7 : groupS sk with ⟨⟨t1, t2, t3⟩, s7⟩
      have C7 := Lib.hid (fun W hW => show Calls Tryz.prog 92 #[.pointer (some ⟨g, 0, none⟩)] W (ReadS g (.agg #[.string (strB t1), .string (strB t2), .string (strB t3)]) s7 W) by have := snReadGroup_any W g sk hW; rwa [h7] at this)
      have y7 : BytesS s7 := by have := groupS_bytes yk; rwa [h7] at this
      obtain ⟨zg1, zg2, zg3⟩ : (strB t1).size ≤ 32 ∧ (strB t2).size ≤ 32 ∧ (strB t3).size ≤ 32 := by have := groupS_32 yk; rw [h7] at this; exact this
      rcases h10 : numS 1000000000000 s7 with ⟨v10, s10⟩
      have C10 := Lib.hid (fun W hW => show Calls Tryz.prog 89 #[.pointer (some ⟨g, 0, none⟩), .int .u64 1000000000000] W (ReadS g (.int .u64 (v10 : Int)) s10 W) by have := rd_num W g s7 1000000000000 hW (by decide); rwa [h10] at this)
      have y10 : BytesS s10 := by have := numS_bytes y7 1000000000000; rwa [h10] at this
      have n10 : v10 ≤ 1000000000000 := by have := numS_le 1000000000000 s7 y7; rwa [h10] at this
      have x10 := i64_small n10 (by decide)
      have HT := Lib.hid (show toldS 96 s = ((⟨1, strB v2, acc, strB t1, strB t2, strB t3, (v10 : Int), 0, false⟩ : Cm), s10) by rw [toldS, H1.out]; show submitS 1 s1' = _; simp only [submitS, H2.out, H3.out, HE.out, h7, h10]; rfl)
      have HFit : Hid (FitC ⟨1, strB v2, acc, strB t1, strB t2, strB t3, (v10 : Int), 0, false⟩) := Lib.hid ⟨(by have := linesS_skus v3 Y3.out; rw [HE.out] at this; exact this), by show acc.length ≤ 8; omega, z2, zg1, zg2, zg3⟩
      clear yk h7 y7 h10 y10 zg1 zg2 zg3 n10 HL HE HB H1 H2 H3 Y3
      obtain ⟨⟨c0, c1, c2, c3, c4⟩, c5, c6, c7, c8⟩ := K.out.out.m
      obtain ⟨p0, p1, p2, p3, p4, p5⟩ := K.out.pt.pt
      go_wp2_with fail
      clear c0 c1 c2 c3 c4 c5 c6 c7 c8 p0 p1 p2 p3 p4 p5
      refine (C7.out _ K.out.rd).mono ?_
      rintro e w7 ⟨rfl, r2, b2⟩
      have K := Lib.hid (K.out.call r2 b2)
      clear r2 b2 C7
      obtain ⟨⟨c0, c1, c2, c3, c4⟩, c5, c6, c7, c8⟩ := K.out.out.m
      obtain ⟨p0, p1, p2, p3, p4, p5⟩ := K.out.pt.pt
      have ff := K.out.out.free
      have K := Lib.hid (K.out.set 3 (.string (strB t1)) (⟨⟨1, strB v2, acc, strB t1, ⟨#[]⟩, ⟨#[]⟩, 0, 0, false⟩, av, cv⟩) rfl ⟨rfl, rfl, rfl⟩)
      have K := Lib.hid (K.out.set 4 (.string (strB t2)) (⟨⟨1, strB v2, acc, strB t1, strB t2, ⟨#[]⟩, 0, 0, false⟩, av, cv⟩) rfl ⟨rfl, rfl, rfl⟩)
      have K := Lib.hid (K.out.set 5 (.string (strB t3)) (⟨⟨1, strB v2, acc, strB t1, strB t2, strB t3, 0, 0, false⟩, av, cv⟩) rfl ⟨rfl, rfl, rfl⟩)
      go_wp2_with fail
      clear c0 c1 c2 c3 c4 c5 c6 c7 c8 p0 p1 p2 p3 p4 p5
      clear ff
      generalize ((w7.setCell ⟨c, 3, none⟩ (.string (strB t1))).setCell ⟨c, 4, none⟩ (.string (strB t2))).setCell ⟨c, 5, none⟩ (.string (strB t3)) = W7 at *
      refine (C10.out _ K.out.rd).mono ?_
      rintro e w10 ⟨rfl, r2, b2⟩
      have K := Lib.hid (K.out.call r2 b2)
      clear r2 b2 C10
      obtain ⟨⟨c0, c1, c2, c3, c4⟩, c5, c6, c7, c8⟩ := K.out.out.m
      obtain ⟨p0, p1, p2, p3, p4, p5⟩ := K.out.pt.pt
      have ff := K.out.out.free 6
      have K := Lib.hid (K.out.set 6 (.int .i64 (v10 : Int)) (⟨⟨1, strB v2, acc, strB t1, strB t2, strB t3, (v10 : Int), 0, false⟩, av, cv⟩) rfl ⟨rfl, rfl, rfl⟩)
      have la := ld_cm K.out.out
      have s1 := st_cm K.out.res (⟨⟨1, strB v2, acc, strB t1, strB t2, strB t3, (v10 : Int), 0, false⟩, av, cv⟩)
      go_wp2_with fail
      (try simp only [Exit.inBlock, Exit.then])
      apply bodyPost_ret
      case hd => rfl
      case hr => exact results_cell_row rfl _ _ w.heap.size 26 _ (0, 0) _ rfl (setRow_heap _ _ _ _ _ _ K.out.res) Tryz.underlying26 rfl (sizeCm _)
      case hR =>
        have F := K.out.fin (cmC (⟨⟨1, strB v2, acc, strB t1, strB t2, strB t3, (v10 : Int), 0, false⟩, av, cv⟩))
        exact ⟨⟨⟨1, strB v2, acc, strB t1, strB t2, strB t3, (v10 : Int), 0, false⟩, av, cv⟩, rfl, by rw [HT.out], F.1, HFit.out, by rw [HT.out]; exact F.2.1, F.2.2⟩


/-- readCommand, whatever is left. -/
theorem readCommand_any (w : World) (g : Nat) (s : Sc) (hkd : KdAt w) (hgk : g ≠ 0) (i : RdS w g s) : Calls Tryz.prog 27 #[.pointer (some ⟨g, 0, none⟩)] w (ReadCm g s w) := by
  have hk := numS_le 8 s i.bytes
  have hkk : (numS 8 s).1 = 0 ∨ (numS 8 s).1 = 1 ∨ (numS 8 s).1 = 2 ∨ (numS 8 s).1 = 3 ∨ (numS 8 s).1 = 4 ∨ (numS 8 s).1 = 5 ∨ (numS 8 s).1 = 6 ∨ (numS 8 s).1 = 7 ∨ (numS 8 s).1 = 8 := by omega
  rcases hkk with hk | hk | hk | hk | hk | hk | hk | hk | hk
  · exact readCommand0 w g s hkd hgk i hk
  · exact readCommand1 w g s hkd hgk i hk
  · exact readCommand2 w g s hkd hgk i hk
  · exact readCommand3 w g s hkd hgk i hk
  · exact readCommand4 w g s hkd hgk i hk
  · exact readCommand5 w g s hkd hgk i hk
  · exact readCommand6 w g s hkd hgk i hk
  · exact readCommand7 w g s hkd hgk i hk
  · exact readCommand8 w g s hkd hgk i hk
end

/- SnRight: What Right and Same of package snap answer. -/
section
set_option maxRecDepth 100000
open Go.RowKit Go.ChangeShapes Go.WideShapes Go.ChangeAt
attribute [local go_sem ↓] ldCm stCm alCm bxCm bdCm ldGr bxGr eqGr ldPt stPt alPt bdPt
attribute [local go_sem] al_cm bx_cm st_cmnew bd_cm bd_cmKind bx_gr ne_gr eq_grX al_pt st_ptnew bd_pt

set_option maxHeartbeats 4000000 in
theorem cmSame0 (r s : CmR) (w : World) (h : CmP w r) (hs : CmP w s) : Calls Tryz.prog 15 #[cmV r, cmV s] w (Tell (sameCm r.m s.m) w) := by
  have I := Lib.hid (TwCm.begin w r s h hs)
  have HE := Lib.hid (show sameCm r.m s.m = ((r.m.kind == s.m.kind) && ((r.m.id.toList == s.m.id.toList) && (sameL r.m.ls s.m.ls && (sameG r.m.car r.m.zone r.m.serv s.m.car s.m.zone s.m.serv && ((r.m.total == s.m.total) && ((r.m.number == s.m.number) && (r.m.yes == s.m.yes))))))) from rfl)
  generalize sameCm r.m s.m = res at *
  have hl := h.len
  have hls := hs.len
  obtain ⟨⟨c0, c1, c2, c3, c4⟩, c5, c6, c7, c8⟩ := I.out.one.m
  obtain ⟨⟨d0, d1, d2, d3, d4⟩, d5, d6, d7, d8⟩ := I.out.two.m
  clear h hs
  go_enter Tryz.func15, Tryz.ntmps15
  cases k1 : (r.m.kind == s.m.kind) with
  | false =>
    have HX := Lib.hid (show res = false by rw [HE.out]; simp only [k1, Bool.false_and])
    go_wp2_with fail
    go_ret
    exact ⟨by rw [HX.out]; try rfl, I.out.low⟩
  | true =>
    cases k2 : (r.m.id.toList == s.m.id.toList) with
    | false =>
      have HX := Lib.hid (show res = false by rw [HE.out]; simp only [k1, k2, Bool.true_and, Bool.false_and])
      go_wp2_with fail
      go_ret
      exact ⟨by rw [HX.out]; try rfl, I.out.low⟩
    | true =>
      go_wp2_with fail
      generalize (w.alloc (.cells (cmC r) 26)).alloc (.cells (cmC s) 26) = W0 at *
      have C := Lib.hid (equalL_any r.a s.a r.c s.c r.m.ls s.m.ls W0 I.out.st.lns I.out.su.lns hl hls)
      refine C.out.mono ?_
      rintro e W4 ⟨rfl, b1⟩
      replace I := Lib.hid (I.out.below b1)
      clear C b1 c0 c1 c2 c3 c4 c5 c6 c7 c8 d0 d1 d2 d3 d4 d5 d6 d7 d8
      obtain ⟨⟨_, _, _, c3, c4⟩, c5, c6, c7, c8⟩ := I.out.one.m
      obtain ⟨⟨_, _, _, d3, d4⟩, d5, d6, d7, d8⟩ := I.out.two.m
      have g1 := ld_grAt c3 c4 c5
      have g2 := ld_grAt d3 d4 d5
      clear c3 c4 c5 d3 d4 d5
      cases k3 : sameL r.m.ls s.m.ls with
      | false =>
        have HX := Lib.hid (show res = false by rw [HE.out]; simp only [k1, k2, k3, Bool.true_and, Bool.false_and])
        go_wp2_with fail
        go_ret
        exact ⟨by rw [HX.out]; try rfl, I.out.low⟩
      | true =>
        cases k4 : sameG r.m.car r.m.zone r.m.serv s.m.car s.m.zone s.m.serv with
        | false =>
          have HX := Lib.hid (show res = false by rw [HE.out]; simp only [k1, k2, k3, k4, Bool.true_and, Bool.false_and])
          go_wp2_with fail
          go_ret
          exact ⟨by rw [HX.out]; try rfl, I.out.low⟩
        | true =>
          cases k5 : (r.m.total == s.m.total) with
          | false =>
            have HX := Lib.hid (show res = false by rw [HE.out]; simp only [k1, k2, k3, k4, k5, Bool.true_and, Bool.false_and])
            go_wp2_with fail
            go_ret
            exact ⟨by rw [HX.out]; try rfl, I.out.low⟩
          | true =>
            cases k6 : (r.m.number == s.m.number) with
            | false =>
              have HX := Lib.hid (show res = false by rw [HE.out]; simp only [k1, k2, k3, k4, k5, k6, Bool.true_and, Bool.false_and])
              go_wp2_with fail
              go_ret
              exact ⟨by rw [HX.out]; try rfl, I.out.low⟩
            | true =>
              cases k7 : (r.m.yes == s.m.yes) with
              | false =>
                have HX := Lib.hid (show res = false by rw [HE.out]; simp only [k1, k2, k3, k4, k5, k6, k7, Bool.true_and])
                go_wp2_with fail
                go_ret
                exact ⟨by rw [HX.out]; try rfl, I.out.low⟩
              | true =>
                have HX := Lib.hid (show res = true by rw [HE.out]; simp only [k1, k2, k3, k4, k5, k6, k7, Bool.true_and])
                go_wp2_with fail
                go_ret
                exact ⟨by rw [HX.out]; try rfl, I.out.low⟩



section
variable (ev : Operand → Value) (d : Option Tmp) (ty : TypeId) (pos : String) (af : Array Edge) (gd : Option (Nat × Bool)) (w : World)
end
attribute [local go_sem ↓] bdGr
attribute [local go_sem] bd_gr

/-- A command in its variable, what its kind has in another. -/
structure RgI (w : World) (r : CmR) (g : Nat) (p : Pt) (W : World) : Prop where
  one : Row W w.heap.size 26 (cmC r)
  pt : Row W g 61 (ptC p)
  st : CmP W r
  low : Below w.heap.size w W
theorem RgI.below {w W W' : World} {r : CmR} {g : Nat} {p : Pt} (h : RgI w r g p W) (b : Below W.heap.size W W') : RgI w r g p W' := ⟨h.one.below b, h.pt.below b, h.st.below b, h.low.trans (b.mono h.low.size)⟩
theorem fits_at (a b c : Bool) (w : World) : Calls Tryz.prog 34 #[.bool a, .bool b, .bool c] w (BoolSame (partB a b c) w) := fits_any a b c w

set_option maxHeartbeats 16000000 in
theorem cmRight0 (r : CmR) (w : World) (hk : KdAt w) (h : CmP w r) : Calls Tryz.prog 13 #[cmV r] w (Tell (rightC r.m) w) := by
  have HE := Lib.hid (right_parts r.m)
  generalize rightC r.m = res at *
  have b0 := (Below.refl w.heap.size w).alloc (Nat.le_refl _) (.cells (cmC r) 26)
  have C0 := Lib.hid (partsOf_any r.m.kind _ (hk.below b0))
  have R0 := Lib.hid (Row.new w (cmC r) 26)
  have P0 := Lib.hid (h.below b0)
  have B0 := Lib.hid b0
  have CI := Lib.hid (fun w => right_any r.m.id w h.id)
  have CG := Lib.hid (fun w => show Calls Tryz.prog 37 #[grV r.m.car r.m.zone r.m.serv] w (Tell (groupB r.m.car r.m.zone r.m.serv) w) from snIsGroup_any r.m.car r.m.zone r.m.serv w h.car h.zone h.serv)
  have c0 := R0.out.m.1.1
  clear b0 hk h
  go_enter Tryz.func13, Tryz.ntmps13
  go_wp2_with fail
  generalize w.alloc (.cells (cmC r) 26) = W0 at *
  refine C0.out.mono ?_
  rintro e w1 ⟨rfl, b1⟩
  generalize ptOf r.m.kind = p at *
  have I : Hid (RgI w r w1.heap.size p (w1.alloc (.cells (ptC p) 61))) := Lib.hid (by
    have b := (Below.refl w1.heap.size w1).alloc (Nat.le_refl _) (.cells (ptC p) 61)
    have b2 := B0.out.trans (b1.mono B0.out.size)
    exact ⟨(R0.out.below b1).below b, Row.new _ _ _, (P0.out.below b1).below b, b2.trans (b.mono b2.size)⟩)
  clear b1 R0 P0 B0 C0 c0
  have CK := Lib.hid (fun w => isKind_any r.m.kind w)
  obtain ⟨t1, ht1⟩ : ∃ t, rightT r.m.id = t := ⟨_, rfl⟩
  obtain ⟨t2, ht2⟩ : ∃ t, rightLB r.m.ls = t := ⟨_, rfl⟩
  obtain ⟨t3, ht3⟩ : ∃ t, groupB r.m.car r.m.zone r.m.serv = t := ⟨_, rfl⟩
  obtain ⟨t4, ht4⟩ : ∃ t, tallyB r.m.total = t := ⟨_, rfl⟩
  obtain ⟨z1, hz1⟩ : ∃ z, r.m.id.toList.isEmpty = z := ⟨_, rfl⟩
  obtain ⟨z2, hz2⟩ : ∃ z, (((r.m.ls.length : Nat) : Int) == 0) = z := ⟨_, rfl⟩
  obtain ⟨z3, hz3⟩ : ∃ z, sameG r.m.car r.m.zone r.m.serv ⟨#[]⟩ ⟨#[]⟩ ⟨#[]⟩ = z := ⟨_, rfl⟩
  obtain ⟨z4, hz4⟩ : ∃ z, (r.m.total == 0) = z := ⟨_, rfl⟩
  obtain ⟨z5, hz5⟩ : ∃ z, (r.m.number == 0) = z := ⟨_, rfl⟩
  obtain ⟨d1, hd1⟩ : ∃ z, decide (0 < p.most) = z := ⟨_, rfl⟩
  obtain ⟨d2, hd2⟩ : ∃ z, decide (1 ≤ r.m.number) = z := ⟨_, rfl⟩
  obtain ⟨d3, hd3⟩ : ∃ z, decide (r.m.number ≤ p.most) = z := ⟨_, rfl⟩
  simp only [rtB, idB, lnB, grB, totB, numB, yesB, str_empty, ht1, ht2, ht3, ht4, hz1, hz2, hz3, hz4, hz5, hd1, hd2, hd3] at HE
  have CI : Hid (∀ w, Calls Tryz.prog 35 #[.string r.m.id] w (Tell t1 w)) := Lib.hid (fun w => by rw [← ht1]; exact CI.out w)
  have CG : Hid (∀ w, Calls Tryz.prog 37 #[grV r.m.car r.m.zone r.m.serv] w (Tell t3 w)) := Lib.hid (fun w => by rw [← ht3]; exact CG.out w)
  go_wp2_with fail
  generalize w1.alloc (.cells (ptC p) 61) = W at *
  generalize w1.heap.size = g at *
  have f0 := far_cell I.out.one.lt I.out.one.m.1.1
  have f1 := far_cell I.out.one.lt I.out.one.m.1.2.1
  have f2 := far_cell I.out.one.lt I.out.one.m.1.2.2.1
  have f6 := far_cell I.out.one.lt I.out.one.m.2.2.1
  have f7 := far_cell I.out.one.lt I.out.one.m.2.2.2.1
  have f8 := far_cell I.out.one.lt I.out.one.m.2.2.2.2
  have q0 := far_cell I.out.pt.lt I.out.pt.pt.1
  have q1 := far_cell I.out.pt.lt I.out.pt.pt.2.1
  have q2 := far_cell I.out.pt.lt I.out.pt.pt.2.2.1
  have q3 := far_cell I.out.pt.lt I.out.pt.pt.2.2.2.1
  have q4 := far_cell I.out.pt.lt I.out.pt.pt.2.2.2.2.1
  have q5 := far_cell I.out.pt.lt I.out.pt.pt.2.2.2.2.2
  have fg : ∀ z : Far W, LdX 24 (.pointer (some ⟨w.heap.size, 3, none⟩)) (farOf W z) = .ok (.value (grV r.m.car r.m.zone r.m.serv)) (farOf W z) := fun z => ld_grAt (far_cell I.out.one.lt I.out.one.m.1.2.2.2.1 z) (far_cell I.out.one.lt I.out.one.m.1.2.2.2.2 z) (far_cell I.out.one.lt I.out.one.m.2.1 z)
  have CL : Hid (∀ z : Far W, Calls Tryz.prog 36 #[.slice r.a r.m.ls.length r.c] (farOf W z) (Tell t2 (farOf W z))) := Lib.hid (fun z => by rw [← ht2]; exact right14_any r.a r.c r.m.ls _ (I.out.below (far_below W z)).st.lns I.out.st.len)
  have CT : Hid (∀ w, Calls Tryz.prog 38 #[.int .i64 r.m.total] w (BoolSame t4 w)) := Lib.hid (fun w => by rw [← ht4]; exact tally_any r.m.total w)
  clear ht1 ht2 ht3 ht4
  simp only [List.append_eq, List.cons_append, List.nil_append]
  refine wp_region_far (by kernel_rfl) (by kernel_rfl) ?_
  cases k0 : cmdB r.m.kind with
  | false =>
    rw [k0] at CK
    have HX := Lib.hid (show res = false by rw [HE.out]; simp only [k0, Bool.false_and]; try rfl)
    repeat (first | go_big_quiet_step (first | (go_at_call 34; with_reducible exact calls_far_same (fits_at _ _ _ _)) | (go_at_call 33; exact calls_far_same (CK.out _)) | (go_at_call 35; exact calls_far (CI.out _)) | (go_at_call 36; exact calls_far (CL.out _)) | (go_at_call 37; exact calls_far (CG.out _)) | (go_at_call 38; exact calls_far_same (CT.out _))) | quiet_step (first | (go_at_call 34; with_reducible exact calls_far_same (fits_at _ _ _ _)) | (go_at_call 33; exact calls_far_same (CK.out _)) | (go_at_call 35; exact calls_far (CI.out _)) | (go_at_call 36; exact calls_far (CL.out _)) | (go_at_call 37; exact calls_far (CG.out _)) | (go_at_call 38; exact calls_far_same (CT.out _))))
    refine wpQuiet_nil ?_
    intro _ hw'
    obtain ⟨z, hw''⟩ := hw'
    subst hw''
    go_wp2_with fail
    go_ret
    exact ⟨by rw [HX.out]; try rfl, (I.out.below (far_below W z)).low⟩
  | true =>
    rw [k0] at CK
    cases k1 : partB p.id t1 z1 with
    | false =>
      have HX := Lib.hid (show res = false by rw [HE.out]; simp only [k0, k1, Bool.true_and, Bool.false_and]; try rfl)
      repeat (first | go_big_quiet_step (first | (go_at_call 34; with_reducible exact calls_far_same (fits_at _ _ _ _)) | (go_at_call 33; exact calls_far_same (CK.out _)) | (go_at_call 35; exact calls_far (CI.out _)) | (go_at_call 36; exact calls_far (CL.out _)) | (go_at_call 37; exact calls_far (CG.out _)) | (go_at_call 38; exact calls_far_same (CT.out _))) | quiet_step (first | (go_at_call 34; with_reducible exact calls_far_same (fits_at _ _ _ _)) | (go_at_call 33; exact calls_far_same (CK.out _)) | (go_at_call 35; exact calls_far (CI.out _)) | (go_at_call 36; exact calls_far (CL.out _)) | (go_at_call 37; exact calls_far (CG.out _)) | (go_at_call 38; exact calls_far_same (CT.out _))))
      refine wpQuiet_nil ?_
      intro _ hw'
      obtain ⟨z, hw''⟩ := hw'
      subst hw''
      go_wp2_with fail
      go_ret
      exact ⟨by rw [HX.out]; try rfl, (I.out.below (far_below W z)).low⟩
    | true =>
      cases k2 : partB p.ln t2 z2 with
      | false =>
        have HX := Lib.hid (show res = false by rw [HE.out]; simp only [k0, k1, k2, Bool.true_and, Bool.false_and]; try rfl)
        repeat (first | go_big_quiet_step (first | (go_at_call 34; with_reducible exact calls_far_same (fits_at _ _ _ _)) | (go_at_call 33; exact calls_far_same (CK.out _)) | (go_at_call 35; exact calls_far (CI.out _)) | (go_at_call 36; exact calls_far (CL.out _)) | (go_at_call 37; exact calls_far (CG.out _)) | (go_at_call 38; exact calls_far_same (CT.out _))) | quiet_step (first | (go_at_call 34; with_reducible exact calls_far_same (fits_at _ _ _ _)) | (go_at_call 33; exact calls_far_same (CK.out _)) | (go_at_call 35; exact calls_far (CI.out _)) | (go_at_call 36; exact calls_far (CL.out _)) | (go_at_call 37; exact calls_far (CG.out _)) | (go_at_call 38; exact calls_far_same (CT.out _))))
        refine wpQuiet_nil ?_
        intro _ hw'
        obtain ⟨z, hw''⟩ := hw'
        subst hw''
        go_wp2_with fail
        go_ret
        exact ⟨by rw [HX.out]; try rfl, (I.out.below (far_below W z)).low⟩
      | true =>
        cases k3 : partB p.gr t3 z3 with
        | false =>
          have HX := Lib.hid (show res = false by rw [HE.out]; simp only [k0, k1, k2, k3, Bool.true_and, Bool.false_and]; try rfl)
          repeat (first | go_big_quiet_step (first | (go_at_call 34; with_reducible exact calls_far_same (fits_at _ _ _ _)) | (go_at_call 33; exact calls_far_same (CK.out _)) | (go_at_call 35; exact calls_far (CI.out _)) | (go_at_call 36; exact calls_far (CL.out _)) | (go_at_call 37; exact calls_far (CG.out _)) | (go_at_call 38; exact calls_far_same (CT.out _))) | quiet_step (first | (go_at_call 34; with_reducible exact calls_far_same (fits_at _ _ _ _)) | (go_at_call 33; exact calls_far_same (CK.out _)) | (go_at_call 35; exact calls_far (CI.out _)) | (go_at_call 36; exact calls_far (CL.out _)) | (go_at_call 37; exact calls_far (CG.out _)) | (go_at_call 38; exact calls_far_same (CT.out _))))
          refine wpQuiet_nil ?_
          intro _ hw'
          obtain ⟨z, hw''⟩ := hw'
          subst hw''
          go_wp2_with fail
          go_ret
          exact ⟨by rw [HX.out]; try rfl, (I.out.below (far_below W z)).low⟩
        | true =>
          cases k4 : partB p.tot t4 z4 with
          | false =>
            have HX := Lib.hid (show res = false by rw [HE.out]; simp only [k0, k1, k2, k3, k4, Bool.true_and, Bool.false_and]; try rfl)
            repeat (first | go_big_quiet_step (first | (go_at_call 34; with_reducible exact calls_far_same (fits_at _ _ _ _)) | (go_at_call 33; exact calls_far_same (CK.out _)) | (go_at_call 35; exact calls_far (CI.out _)) | (go_at_call 36; exact calls_far (CL.out _)) | (go_at_call 37; exact calls_far (CG.out _)) | (go_at_call 38; exact calls_far_same (CT.out _))) | quiet_step (first | (go_at_call 34; with_reducible exact calls_far_same (fits_at _ _ _ _)) | (go_at_call 33; exact calls_far_same (CK.out _)) | (go_at_call 35; exact calls_far (CI.out _)) | (go_at_call 36; exact calls_far (CL.out _)) | (go_at_call 37; exact calls_far (CG.out _)) | (go_at_call 38; exact calls_far_same (CT.out _))))
            refine wpQuiet_nil ?_
            intro _ hw'
            obtain ⟨z, hw''⟩ := hw'
            subst hw''
            go_wp2_with fail
            go_ret
            exact ⟨by rw [HX.out]; try rfl, (I.out.below (far_below W z)).low⟩
          | true =>
            cases d2 with
            | false =>
              cases k5 : partB d1 false z5 with
              | false =>
                have HX := Lib.hid (show res = false by rw [HE.out]; simp only [k0, k1, k2, k3, k4, k5, Bool.true_and, Bool.false_and]; try rfl)
                repeat (first | go_big_quiet_step (first | (go_at_call 34; with_reducible exact calls_far_same (fits_at _ _ _ _)) | (go_at_call 33; exact calls_far_same (CK.out _)) | (go_at_call 35; exact calls_far (CI.out _)) | (go_at_call 36; exact calls_far (CL.out _)) | (go_at_call 37; exact calls_far (CG.out _)) | (go_at_call 38; exact calls_far_same (CT.out _))) | quiet_step (first | (go_at_call 34; with_reducible exact calls_far_same (fits_at _ _ _ _)) | (go_at_call 33; exact calls_far_same (CK.out _)) | (go_at_call 35; exact calls_far (CI.out _)) | (go_at_call 36; exact calls_far (CL.out _)) | (go_at_call 37; exact calls_far (CG.out _)) | (go_at_call 38; exact calls_far_same (CT.out _))))
                refine wpQuiet_nil ?_
                intro _ hw'
                obtain ⟨z, hw''⟩ := hw'
                subst hw''
                go_wp2_with fail
                go_ret
                exact ⟨by rw [HX.out]; try rfl, (I.out.below (far_below W z)).low⟩
              | true =>
                cases k6 : p.yes with
                | true =>
                  have HX := Lib.hid (show res = true by rw [HE.out]; simp only [k0, k1, k2, k3, k4, k5, k6, Bool.true_or, Bool.true_and, Bool.false_and]; try rfl)
                  repeat (first | go_big_quiet_step (first | (go_at_call 34; with_reducible exact calls_far_same (fits_at _ _ _ _)) | (go_at_call 33; exact calls_far_same (CK.out _)) | (go_at_call 35; exact calls_far (CI.out _)) | (go_at_call 36; exact calls_far (CL.out _)) | (go_at_call 37; exact calls_far (CG.out _)) | (go_at_call 38; exact calls_far_same (CT.out _))) | quiet_step (first | (go_at_call 34; with_reducible exact calls_far_same (fits_at _ _ _ _)) | (go_at_call 33; exact calls_far_same (CK.out _)) | (go_at_call 35; exact calls_far (CI.out _)) | (go_at_call 36; exact calls_far (CL.out _)) | (go_at_call 37; exact calls_far (CG.out _)) | (go_at_call 38; exact calls_far_same (CT.out _))))
                  refine wpQuiet_nil ?_
                  intro _ hw'
                  obtain ⟨z, hw''⟩ := hw'
                  subst hw''
                  go_wp2_with fail
                  go_ret
                  exact ⟨by rw [HX.out]; try rfl, (I.out.below (far_below W z)).low⟩
                | false =>
                  have HX := Lib.hid (show res = (!r.m.yes) by rw [HE.out]; simp only [k0, k1, k2, k3, k4, k5, k6, Bool.false_or, Bool.true_and, Bool.false_and]; try rfl)
                  repeat (first | go_big_quiet_step (first | (go_at_call 34; with_reducible exact calls_far_same (fits_at _ _ _ _)) | (go_at_call 33; exact calls_far_same (CK.out _)) | (go_at_call 35; exact calls_far (CI.out _)) | (go_at_call 36; exact calls_far (CL.out _)) | (go_at_call 37; exact calls_far (CG.out _)) | (go_at_call 38; exact calls_far_same (CT.out _))) | quiet_step (first | (go_at_call 34; with_reducible exact calls_far_same (fits_at _ _ _ _)) | (go_at_call 33; exact calls_far_same (CK.out _)) | (go_at_call 35; exact calls_far (CI.out _)) | (go_at_call 36; exact calls_far (CL.out _)) | (go_at_call 37; exact calls_far (CG.out _)) | (go_at_call 38; exact calls_far_same (CT.out _))))
                  refine wpQuiet_nil ?_
                  intro _ hw'
                  obtain ⟨z, hw''⟩ := hw'
                  subst hw''
                  go_wp2_with fail
                  go_ret
                  exact ⟨by rw [HX.out]; try rfl, (I.out.below (far_below W z)).low⟩
            | true =>
              cases k5 : partB d1 d3 z5 with
              | false =>
                have HX := Lib.hid (show res = false by rw [HE.out]; simp only [k0, k1, k2, k3, k4, k5, Bool.true_and, Bool.false_and]; try rfl)
                repeat (first | go_big_quiet_step (first | (go_at_call 34; with_reducible exact calls_far_same (fits_at _ _ _ _)) | (go_at_call 33; exact calls_far_same (CK.out _)) | (go_at_call 35; exact calls_far (CI.out _)) | (go_at_call 36; exact calls_far (CL.out _)) | (go_at_call 37; exact calls_far (CG.out _)) | (go_at_call 38; exact calls_far_same (CT.out _))) | quiet_step (first | (go_at_call 34; with_reducible exact calls_far_same (fits_at _ _ _ _)) | (go_at_call 33; exact calls_far_same (CK.out _)) | (go_at_call 35; exact calls_far (CI.out _)) | (go_at_call 36; exact calls_far (CL.out _)) | (go_at_call 37; exact calls_far (CG.out _)) | (go_at_call 38; exact calls_far_same (CT.out _))))
                refine wpQuiet_nil ?_
                intro _ hw'
                obtain ⟨z, hw''⟩ := hw'
                subst hw''
                go_wp2_with fail
                go_ret
                exact ⟨by rw [HX.out]; try rfl, (I.out.below (far_below W z)).low⟩
              | true =>
                cases k6 : p.yes with
                | true =>
                  have HX := Lib.hid (show res = true by rw [HE.out]; simp only [k0, k1, k2, k3, k4, k5, k6, Bool.true_or, Bool.true_and]; try rfl)
                  repeat (first | go_big_quiet_step (first | (go_at_call 34; with_reducible exact calls_far_same (fits_at _ _ _ _)) | (go_at_call 33; exact calls_far_same (CK.out _)) | (go_at_call 35; exact calls_far (CI.out _)) | (go_at_call 36; exact calls_far (CL.out _)) | (go_at_call 37; exact calls_far (CG.out _)) | (go_at_call 38; exact calls_far_same (CT.out _))) | quiet_step (first | (go_at_call 34; with_reducible exact calls_far_same (fits_at _ _ _ _)) | (go_at_call 33; exact calls_far_same (CK.out _)) | (go_at_call 35; exact calls_far (CI.out _)) | (go_at_call 36; exact calls_far (CL.out _)) | (go_at_call 37; exact calls_far (CG.out _)) | (go_at_call 38; exact calls_far_same (CT.out _))))
                  refine wpQuiet_nil ?_
                  intro _ hw'
                  obtain ⟨z, hw''⟩ := hw'
                  subst hw''
                  go_wp2_with fail
                  go_ret
                  exact ⟨by rw [HX.out]; try rfl, (I.out.below (far_below W z)).low⟩
                | false =>
                  have HX := Lib.hid (show res = (!r.m.yes) by rw [HE.out]; simp only [k0, k1, k2, k3, k4, k5, k6, Bool.false_or, Bool.true_and]; try rfl)
                  repeat (first | go_big_quiet_step (first | (go_at_call 34; with_reducible exact calls_far_same (fits_at _ _ _ _)) | (go_at_call 33; exact calls_far_same (CK.out _)) | (go_at_call 35; exact calls_far (CI.out _)) | (go_at_call 36; exact calls_far (CL.out _)) | (go_at_call 37; exact calls_far (CG.out _)) | (go_at_call 38; exact calls_far_same (CT.out _))) | quiet_step (first | (go_at_call 34; with_reducible exact calls_far_same (fits_at _ _ _ _)) | (go_at_call 33; exact calls_far_same (CK.out _)) | (go_at_call 35; exact calls_far (CI.out _)) | (go_at_call 36; exact calls_far (CL.out _)) | (go_at_call 37; exact calls_far (CG.out _)) | (go_at_call 38; exact calls_far_same (CT.out _))))
                  refine wpQuiet_nil ?_
                  intro _ hw'
                  obtain ⟨z, hw''⟩ := hw'
                  subst hw''
                  go_wp2_with fail
                  go_ret
                  exact ⟨by rw [HX.out]; try rfl, (I.out.below (far_below W z)).low⟩
end

/- SnCon: What package snap's calls answer, as the laws want it; the laws' example. -/
section
set_option maxRecDepth 100000
open Go.RowKit Go.ChangeShapes Go.WideShapes Go.ChangeAt
attribute [local go_sem ↓] ldCm stCm alCm bxCm bdCm ldSt stSt alSt bxSt bdSt ldCa bxCa eqCa
attribute [local go_sem] al_cm bx_cm st_cmnew bd_cm bd_cmKind al_sta bx_sta st_stnew bd_sta

def CmRightC : Prop := ∀ (r : CmR) (w : World), KdAt w → CmP w r → Calls Tryz.prog 13 #[cmV r] w (Tell (rightC r.m) w)
def CmSameC : Prop := ∀ (r s : CmR) (w : World), CmP w r → CmP w s → Calls Tryz.prog 15 #[cmV r, cmV s] w (Tell (sameCm r.m s.m) w)
def ToldC : Prop := ∀ (a : Option Addr) (cap : Nat) (l : List Nat) (w : World), KdAt w → BytesP w a cap l → l.length ≤ 1000000 → Calls Tryz.prog 10 #[.slice a l.length cap] w (ToldPost l w)
theorem told_command {c : Cm} (h : rightC c = true) : toldV (commandL c) = c ∧ toldE (commandL c) = 0 := by
  have := toldO_put 1000000000000 (by decide) h
  unfold toldV toldE
  rw [this]
  exact ⟨rfl, rfl⟩
theorem commandL_len {c : Cm} (h : rightC c = true) : (commandL c).length ≤ 2000 := by
  obtain ⟨h1, h2⟩ := rightC_of h
  have hk := rightC_kind h
  have t0 := numL_ten (show c.kind.toNat < 18446744073709551616 by omega)
  unfold commandL restL
  unfold fitsC at h2
  rw [List.length_append]
  split
  · rename_i e
    rw [if_pos e] at h2
    simp only [Bool.and_eq_true, tallyB, decide_eq_true_eq] at h2
    obtain ⟨i1, i2, i3, i4⟩ := h2
    obtain ⟨g1, g2, g3⟩ := groupB_of i3
    obtain ⟨⟨_, k8⟩, k9, _⟩ := (rightLB_iff _).1 i2
    have t1 := textL_32 (right_32 i1)
    have t2 := textL_32 (right_32 g1)
    have t3 := textL_32 (right_32 g2)
    have t4 := textL_32 (right_32 g3)
    have t5 := linesL_len _ k9
    have t6 := numL_ten (show c.ls.length < 18446744073709551616 by omega)
    have t7 := numL_ten (show c.total.toNat < 18446744073709551616 by omega)
    simp only [List.length_append]
    omega
  · rename_i e
    rw [if_neg e] at h2
    split
    · rename_i e2
      rw [if_pos e2] at h2
      have t1 := textL_32 (right_32 h2)
      omega
    · rename_i e2
      rw [if_neg e2] at h2
      split
      · rename_i e3
        rw [if_pos e3] at h2
        simp only [Bool.and_eq_true] at h2
        obtain ⟨g1, g2, g3⟩ := groupB_of h2.2
        have t1 := textL_32 (right_32 h2.1)
        have t2 := textL_32 (right_32 g1)
        have t3 := textL_32 (right_32 g2)
        have t4 := textL_32 (right_32 g3)
        simp only [List.length_append]
        omega
      · rename_i e3
        rw [if_neg e3] at h2
        split
        · rename_i e4
          rw [if_pos e4] at h2
          simp only [decide_eq_true_eq] at h2
          have t1 := numL_ten (show c.number.toNat < 18446744073709551616 by omega)
          omega
        · rename_i e4
          rw [if_neg e4] at h2
          split
          · rename_i e5
            rw [if_pos e5] at h2
            have h3 := (aboveB_iff _).1 h2
            have t1 := numL_ten (show c.number.toNat < 18446744073709551616 by omega)
            have t2 := givenN_le c.yes
            have t3 := numL_ten (show givenN c.yes < 18446744073709551616 by omega)
            simp only [List.length_append]
            omega
          · simp only [List.length_nil]
            omega
end

/- SnTold2: What Told of package snap answers, of any bytes. -/
section
set_option maxRecDepth 100000
open Go.RowKit Go.ChangeShapes Go.WideShapes Go.ChangeAt
attribute [local go_sem ↓] ldCm stCm alCm bxCm bdCm
attribute [local go_sem] al_cm bx_cm st_cmnew bd_cm bd_cmKind

/-- The result's variable, the command that was read in its own. -/
structure TeI (w : World) (c : Nat) (r : CmR) (W : World) : Prop where
  res : Row W w.heap.size 26 (cmC noCmR)
  out : Row W c 26 (cmC r)
  own : OwnL W (w.heap.size + 1) (.slice r.a r.m.ls.length r.c) r.m.ls
  fit : FitC r.m
  low : Below w.heap.size w W
theorem TeI.p {w W : World} {c : Nat} {r : CmR} (h : TeI w c r W) : CmP W r := cmP_own h.own h.fit
theorem TeI.below {w W W' : World} {c : Nat} {r : CmR} (h : TeI w c r W) (b : Below W.heap.size W W') : TeI w c r W' := ⟨h.res.below b, h.out.below b, h.own.below b, h.fit, h.low.trans (b.mono h.low.size)⟩
theorem told_yes {l : List Nat} (hb : Bytes l) (h1 : ((toldS 96 (some l)).2 == some []) = true) (h2 : rightC (toldS 96 (some l)).1 = true) : toldV l = (toldS 96 (some l)).1 ∧ toldE l = 0 := by
  have : toldO 1000000000000 l = some (toldS 96 (some l)).1 := by
    rw [toldO_limit (m := 1000000000000) (m' := 96) (by decide) (by decide) hb]
    unfold toldO
    rw [h1, h2]
    rfl
  unfold toldV toldE
  rw [this]
  exact ⟨rfl, rfl⟩
theorem told_not {l : List Nat} (hb : Bytes l) (h : (((toldS 96 (some l)).2 == some []) && rightC (toldS 96 (some l)).1) = false) : toldV l = noCm ∧ toldE l = 161 := by
  have : toldO 1000000000000 l = none := by
    rw [toldO_limit (m := 1000000000000) (m' := 96) (by decide) (by decide) hb]
    unfold toldO
    rw [h]
    rfl
  unfold toldV toldE
  rw [this]
  exact ⟨rfl, rfl⟩

set_option maxHeartbeats 4000000 in
theorem told_of : ToldC := by
  intro a cap l w hk h hl
  have HB := Lib.hid h.byte
  have b0 := (Below.refl w.heap.size w).alloc (Nat.le_refl _) (.cells (cmC noCmR) 26)
  have C1 := Lib.hid (new_any a cap l _ (h.below b0) hl)
  have K0 := Lib.hid (hk.below b0)
  have R0 := Lib.hid (Row.new w (cmC noCmR) 26)
  have B0 := Lib.hid b0
  have hk1 := hk.1
  have hz : w.heap.size ≤ (w.alloc (.cells (cmC noCmR) 26)).heap.size := by simp
  clear h hk b0
  go_enter Tryz.func10, Tryz.ntmps10
  go_wp2_with fail
  generalize w.alloc (.cells (cmC noCmR) 26) = W0 at *
  refine C1.out.mono ?_
  rintro e w1 ⟨g, rfl, r1, b1, hg⟩
  have R1 := Lib.hid (R0.out.below b1)
  have B1 := Lib.hid (B0.out.trans (b1.mono B0.out.size))
  have hw1 := R1.out.lt
  have hgg : w.heap.size ≤ g := Nat.le_trans hz hg
  have C2 := Lib.hid (readCommand_any w1 g (some l) (K0.out.below b1) (by omega) (.inr ⟨l, 0, by simp, r1⟩))
  have hR0 := R0.out.lt
  have hzz : w.heap.size < g := by omega
  have KD1 := Lib.hid (K0.out.below b1)
  clear r1 b1 C1 K0 R0 B0 hg
  go_wp2_with fail
  refine C2.out.mono ?_
  rintro e w2 ⟨r, rfl, hr, ho, hf, r2, b2⟩
  have HM := Lib.hid hr
  have RD := Lib.hid (r2.below ((Below.refl w2.heap.size w2).alloc (Nat.le_refl _) (.cells (cmC r) 26)))
  have KD := Lib.hid ((KdAt.but KD1.out b2 (by omega)).below ((Below.refl w2.heap.size w2).alloc (Nat.le_refl _) (.cells (cmC r) 26)))
  have I : Hid (TeI w w2.heap.size r (w2.alloc (.cells (cmC r) 26))) := Lib.hid (by
    have b := (Below.refl w2.heap.size w2).alloc (Nat.le_refl _) (.cells (cmC r) 26)
    have hz1 : w.heap.size + 1 ≤ w1.heap.size := by omega
    have b3 := B1.out.trans (b2.below (by omega) B1.out.size)
    exact ⟨(R1.out.but b2 (by omega)).below b, Row.new _ _ _, (ho.below b).base hz1, hf, b3.trans (b.mono b3.size)⟩)
  clear hr ho hf r2 b2 C2 R1 B1 KD1
  go_wp2_with fail
  generalize w2.alloc (.cells (cmC r) 26) = W at *
  generalize w2.heap.size = c at *
  refine (rd_done_any W g _ RD.out).mono ?_
  rintro e w3 ⟨rfl, b3⟩
  have I := Lib.hid (I.out.below b3)
  have KD := Lib.hid (KD.out.below b3)
  clear b3 RD
  cases hq : ((toldS 96 (some l)).2 == some []) with
  | false =>
    have HX := told_not HB.out (by rw [hq]; rfl)
    have s1 := st_cm I.out.res noCmR
    go_wp2_with fail
    (try simp only [Exit.inBlock, Exit.then])
    apply bodyPost_ret
    case hd => rfl
    case hr => exact results_cell_one rfl _ _ w.heap.size _ rfl (loadCm (setRow_heap _ _ _ _ _ _ I.out.res))
    case hR => exact ⟨noCmR, by rw [HX.2]; rfl, HX.1.symm, CmP.none _, Below.row I.out.low (Nat.le_refl _) _⟩
  | true =>
    have la := ld_cm I.out.out
    have CR := Lib.hid (cmRight0 r w3 KD.out I.out.p)
    go_wp2_with fail
    refine CR.out.mono ?_
    rintro e w4 ⟨rfl, b4⟩
    have I := Lib.hid (I.out.below b4)
    clear la CR b4 KD
    cases hx : rightC r.m with
    | false =>
      have HX := told_not HB.out (by rw [← HM.out, hx, Bool.and_false])
      have s1 := st_cm I.out.res noCmR
      go_wp2_with fail
      (try simp only [Exit.inBlock, Exit.then])
      apply bodyPost_ret
      case hd => rfl
      case hr => exact results_cell_one rfl _ _ w.heap.size _ rfl (loadCm (setRow_heap _ _ _ _ _ _ I.out.res))
      case hR => exact ⟨noCmR, by rw [HX.2]; rfl, HX.1.symm, CmP.none _, Below.row I.out.low (Nat.le_refl _) _⟩
    | true =>
      have HX := told_yes HB.out hq (by rw [← HM.out]; exact hx)
      have la := ld_cm I.out.out
      have s1 := st_cm I.out.res r
      go_wp2_with fail
      (try simp only [Exit.inBlock, Exit.then])
      apply bodyPost_ret
      case hd => rfl
      case hr => exact results_cell_one rfl _ _ w.heap.size _ rfl (loadCm (setRow_heap _ _ _ _ _ _ I.out.res))
      case hR => exact ⟨r, by rw [HX.2]; rfl, by rw [HX.1]; exact HM.out, cmP_own (I.out.own.grown fun k h1 h2 => setRow_other _ _ k _ (by omega)) I.out.fit, Below.row I.out.low (Nat.le_refl _) _⟩
end

end Go.Proofs.YtfmpibmhhfmajaaGreatDoor
