/- BatchRuns: the law returns true for any batch, any caps and any acts: orders come and go, and all answers, and the batch, are the document's; a batch that was there ahead stays as it was. It has no conditions. -/
import Derived.Test.YtieoihmndpkdoaaBtAlive
import Derived.Test.YtieoihmndpkdoaaBtVo
import Derived.Test.YtieoihmndpkdoaaBtRight2
import Derived.Test.YtieoihmndpkdoaaBtSame
import Derived.Test.YtieoihmndpkdoaaBtArgs
import Derived.Test.YtieoihmndpkdoaaBtEvict
import Derived.Test.YtieoihmndpkdoaaBtRefE
import Derived.Test.YtieoihmndpkdoaaBtTake
namespace Go.Proofs.Ytieoihmndpkdoaa
open Go.ChangeShapes Go.WideShapes Go.ChangeAt Go.RowKit

set_option maxRecDepth 100000
attribute [local go_sem ↓] ldBt stBt alBt bxBt ldCp bxCp
attribute [local go_sem] al_bt bx_bt bx_cp alloc_setRow

/-- Where texts lie, there is none of these two variables. -/
def Away (n g : Nat) (a : Option Addr) (l : List ByteArray) : Prop := l ≠ [] → ∀ x, a = some x → x.block ≠ n ∧ x.block ≠ g
theorem OwnT.away {W : World} {base n g : Nat} {a : Option Addr} {m cap : Nat} {l : List ByteArray} (h : OwnT W base (.slice a m cap) l) (hn : n < base) (hg : g < base) : Away n g a l := by
  intro _ x hx
  subst hx
  have := h.row x.block (by
    rcases h.2 with ⟨e, _⟩ | ⟨k, cap', cur, e, _⟩
    · cases e
    · injection e with e1 _ _
      injection e1 with e1
      subst e1
      rfl)
  omega
theorem Away.old {w : World} {n g : Nat} {a : Option Addr} {cap : Nat} {l : List ByteArray} (h : StrsP w a cap l) (hn : w.heap.size ≤ n) (hg : w.heap.size ≤ g) : Away n g a l := by
  intro hne x hx
  obtain ⟨b, o, e, hlt, _⟩ := h.cell hne
  rw [e] at hx
  injection hx with hx
  subst hx
  simp only
  omega

/-- What stands in the variables while acts are done: the batch, the document's, caps. -/
structure RunI (w : World) (g : Nat) (c : Cp) (b : Bt) (a1 a2 : Option Addr) (c1 c2 : Nat) (W : World) : Prop where
  one : Row W w.heap.size 28 (btC a1 c1 b)
  two : Row W g 28 (btC a2 c2 b)
  m1 : StrsP W a1 c1 b.mem
  m2 : StrsP W a2 c2 b.mem
  f1 : Away w.heap.size g a1 b.mem
  f2 : Away w.heap.size g a2 b.mem
  caps : CapsI w (w.heap.size + 1) c W
theorem RunI.below {w W W' : World} {g : Nat} {c : Cp} {b : Bt} {a1 a2 : Option Addr} {c1 c2 : Nat} (h : RunI w g c b a1 a2 c1 c2 W) (k : Below W.heap.size W W') : RunI w g c b a1 a2 c1 c2 W' :=
  ⟨h.one.below k, h.two.below k, h.m1.below k, h.m2.below k, h.f1, h.f2, h.caps.below k⟩
theorem RunI.next {w W W' : World} {g : Nat} {c : Cp} {b : Bt} {a1 a2 : Option Addr} {c1 c2 : Nat} (h : RunI w g c b a1 a2 c1 c2 W) (k : Below W.heap.size W W') (o : Obj) : RunI w g c b a1 a2 c1 c2 (W'.alloc o) :=
  (h.below k).below ((Below.refl _ _).alloc (Nat.le_refl _) _)

/-- What a round has laid: the act, the batch as it was, and its members, once more. -/
structure OldI (w : World) (g : Nat) (b : Bt) (x : Ac) (a1 a3 : Option Addr) (c1 c3 ga gk base : Nat) (W : World) : Prop where
  act : Row W ga 42 #[.int .i64 x.kind, .string x.id, .int .i64 x.wt]
  kept : Row W gk 28 (btC a1 c1 b)
  mem : StrsP W a1 c1 b.mem
  was : OwnT W base (.slice a3 b.mem.length c3) b.mem
  far : Away w.heap.size g a1 b.mem
  high : w.heap.size + 1 < g ∧ g < ga ∧ g < gk ∧ g < base
theorem OldI.below {w W W' : World} {g : Nat} {b : Bt} {x : Ac} {a1 a3 : Option Addr} {c1 c3 ga gk base : Nat} (h : OldI w g b x a1 a3 c1 c3 ga gk base W) (k : Below W.heap.size W W') : OldI w g b x a1 a3 c1 c3 ga gk base W' :=
  ⟨h.act.below k, h.kept.below k, h.mem.below k, h.was.below k, h.far, h.high⟩
theorem OldI.set1 {w W : World} {g : Nat} {b : Bt} {x : Ac} {a1 a3 : Option Addr} {c1 c3 ga gk base : Nat} (h : OldI w g b x a1 a3 c1 c3 ga gk base W) (cs : Array Value) : OldI w g b x a1 a3 c1 c3 ga gk base (W.setRow w.heap.size cs) := by
  obtain ⟨h1, h2, h3, h4⟩ := h.high
  exact ⟨(setRow_other _ _ _ _ (by omega)).trans h.act, (setRow_other _ _ _ _ (by omega)).trans h.kept, h.mem.setRow (fun hne x hx => (h.far hne x hx).1) cs, h.was.setRow (by omega) cs, h.far, h.high⟩
theorem OldI.set2 {w W : World} {g : Nat} {b : Bt} {x : Ac} {a1 a3 : Option Addr} {c1 c3 ga gk base : Nat} (h : OldI w g b x a1 a3 c1 c3 ga gk base W) (cs : Array Value) : OldI w g b x a1 a3 c1 c3 ga gk base (W.setRow g cs) := by
  obtain ⟨h1, h2, h3, h4⟩ := h.high
  exact ⟨(setRow_other _ _ _ _ (by omega)).trans h.act, (setRow_other _ _ _ _ (by omega)).trans h.kept, h.mem.setRow (fun hne x hx => (h.far hne x hx).2) cs, h.was.setRow h4 cs, h.far, h.high⟩

/-- The batch is put, the document's is not yet. -/
structure MidI (w : World) (g : Nat) (c : Cp) (b b' : Bt) (a1 a2 : Option Addr) (c1 c2 : Nat) (W : World) : Prop where
  one : Row W w.heap.size 28 (btC a1 c1 b')
  two : Row W g 28 (btC a2 c2 b)
  m1 : StrsP W a1 c1 b'.mem
  m2 : StrsP W a2 c2 b.mem
  f1 : Away w.heap.size g a1 b'.mem
  f2 : Away w.heap.size g a2 b.mem
  caps : CapsI w (w.heap.size + 1) c W
theorem MidI.below {w W W' : World} {g : Nat} {c : Cp} {b b' : Bt} {a1 a2 : Option Addr} {c1 c2 : Nat} (h : MidI w g c b b' a1 a2 c1 c2 W) (k : Below W.heap.size W W') : MidI w g c b b' a1 a2 c1 c2 W' :=
  ⟨h.one.below k, h.two.below k, h.m1.below k, h.m2.below k, h.f1, h.f2, h.caps.below k⟩
theorem RunI.put1 {w W W' : World} {g : Nat} {c : Cp} {b b' : Bt} {a1 a2 a3 : Option Addr} {c1 c2 c3 : Nat} (h : RunI w g c b a1 a2 c1 c2 W) (k : Below W.heap.size W W') (o : OwnT W' W.heap.size (.slice a3 b'.mem.length c3) b'.mem) (hg : w.heap.size + 1 < g) : MidI w g c b b' a3 a2 c3 c2 (W'.setRow w.heap.size (btC a3 c3 b')) := by
  have l1 := h.two.lt
  have q := h.below k
  exact ⟨setRow_heap _ _ _ _ _ _ q.one, (setRow_other _ _ _ _ (by omega)).trans q.two, (o.setRow (by omega) _).reads.2, q.m2.setRow (fun hne x hx => (h.f2 hne x hx).1) _, o.away (by omega) l1, h.f2, q.caps.setRow (by omega) (Nat.le_refl _) _⟩
theorem MidI.put2 {w W W' : World} {g : Nat} {c : Cp} {b b' : Bt} {a1 a2 a3 : Option Addr} {c1 c2 c3 : Nat} (h : MidI w g c b b' a1 a2 c1 c2 W) (k : Below W.heap.size W W') (o : (a3 = a2 ∧ b' = b ∧ StrsP W' a3 c3 b'.mem) ∨ OwnT W' W.heap.size (.slice a3 b'.mem.length c3) b'.mem) (hg : w.heap.size + 1 < g) : RunI w g c b' a1 a3 c1 c3 (W'.setRow g (btC a3 c3 b')) := by
  have l1 := h.two.lt
  have q := h.below k
  have hm : StrsP (W'.setRow g (btC a3 c3 b')) a3 c3 b'.mem ∧ Away w.heap.size g a3 b'.mem := by
    rcases o with ⟨rfl, rfl, hs⟩ | o
    · exact ⟨hs.setRow (fun hne x hx => (h.f2 hne x hx).2) _, h.f2⟩
    · exact ⟨(o.setRow l1 _).reads.2, o.away (by omega) l1⟩
  exact ⟨(setRow_other _ _ _ _ (by omega)).trans q.one, setRow_heap _ _ _ _ _ _ q.two, q.m1.setRow (fun hne x hx => (h.f1 hne x hx).2) _, hm.1, h.f1, hm.2, q.caps.setRow (by omega) (by omega) _⟩

set_option maxHeartbeats 32000000 in
theorem runs_walk (a q : Option Addr) (ca cap : Nat) (b : Bt) (c : Cp) (l : List Ac) (w : World) (h1 : BtP w a ca b) (hS : ActsP w q cap l) : Calls Try.prog 5 #[btV a ca b, cpV c, .slice q l.length cap] w (Tell true w) := by
  have HB := Lib.hid h1
  have HL := Lib.hid hS
  have hll := hS.len
  have B0 : Below w.heap.size w (w.alloc (.cells (btC a ca b) 28)) := (Below.refl _ _).alloc (Nat.le_refl _) _
  have R0 : Row (w.alloc (.cells (btC a ca b) 28)) w.heap.size 28 (btC a ca b) := heap_alloc_new _ _
  have B1 : Below (w.alloc (.cells (btC a ca b) 28)).heap.size (w.alloc (.cells (btC a ca b) 28)) ((w.alloc (.cells (btC a ca b) 28)).alloc (.cells #[.int .i64 c.count, .int .i64 c.wt] 23)) := (Below.refl _ _).alloc (Nat.le_refl _) _
  have K0 : Hid (Row ((w.alloc (.cells (btC a ca b) 28)).alloc (.cells #[.int .i64 c.count, .int .i64 c.wt] 23)) w.heap.size 28 (btC a ca b) ∧ CapsI w (w.heap.size + 1) c ((w.alloc (.cells (btC a ca b) 28)).alloc (.cells #[.int .i64 c.count, .int .i64 c.wt] 23))) := Lib.hid ⟨R0.below B1, by
    have r := (CapsI.new (w.alloc (.cells (btC a ca b) 28)) c).row
    rw [show (w.alloc (.cells (btC a ca b) 28)).heap.size = w.heap.size + 1 by simp] at r
    exact ⟨r, B0.trans (B1.mono B0.size)⟩⟩
  clear h1 hS B0 R0 B1
  have sa : ∀ W : World, Slot (W.alloc (.cells zB 28)) W.heap.size := fun W => Slot.new W
  have st : ∀ (W : World) g a cap x, Slot W g → StX 28 (.pointer (some ⟨g, 0, none⟩)) (btV a cap x) W = .ok .skip (W.setRow g (btC a cap x)) := fun W g a cap x h => h.store a cap x
  go_enter Try.func5, Try.ntmps5
  go_wp2_with fail
  generalize (w.alloc (.cells (btC a ca b) 28)).alloc (.cells #[.int .i64 c.count, .int .i64 c.wt] 23) = W0 at *
  refine (alive_any _).mono ?_
  rintro e W1 ⟨rfl, b1⟩
  have K1 := Lib.hid (And.intro (K0.out.1.below b1) (K0.out.2.below b1))
  clear b1 K0
  have l1 := ld_bt K1.out.1
  have CR := Lib.hid (refBtRight_any a ca b W1 (HB.out.below K1.out.2.low))
  go_wp2_with fail
  refine CR.out.mono ?_
  rintro e W2 ⟨rfl, b2⟩
  have K2 := Lib.hid (And.intro (K1.out.1.below b2) (K1.out.2.below b2))
  clear b2 K1 l1 CR
  cases hr : rightBt b with
  | false =>
    go_wp2_with fail
    go_ret
    exact ⟨rfl, K2.out.2.low⟩
  | true =>
    have l2 := ld_cp K2.out.2.row
    go_wp2_with fail
    refine (refCaps_any c W2).mono ?_
    rintro e W3 ⟨rfl, b3⟩
    have K3 := Lib.hid (And.intro (K2.out.1.below b3) (K2.out.2.below b3))
    clear b3 K2 l2
    cases hc : capsB c with
    | false =>
      go_wp2_with fail
      go_ret
      exact ⟨rfl, K3.out.2.low⟩
    | true =>
      by_cases h100 : 100 < (l.length : Int)
      · go_wp2_with fail
        go_ret
        exact ⟨rfl, K3.out.2.low⟩
      · have l1 := ld_bt K3.out.1
        have hg3 : w.heap.size + 1 < W3.heap.size := K3.out.2.row.lt
        have B4 : Below W3.heap.size W3 (W3.alloc (.cells (btC a ca b) 28)) := (Below.refl _ _).alloc (Nat.le_refl _) _
        have M4 := HB.out.mem.below (K3.out.2.low.trans (B4.mono K3.out.2.low.size))
        have V4 : Hid (RunI w W3.heap.size c b a a ca ca (W3.alloc (.cells (btC a ca b) 28))) := Lib.hid ⟨K3.out.1.below B4, heap_alloc_new _ _, M4, M4, Away.old HB.out.mem (Nat.le_refl _) (by omega), Away.old HB.out.mem (Nat.le_refl _) (by omega), K3.out.2.below B4⟩
        clear M4 B4 K3
        go_wp2_with fail
        generalize W3.alloc (.cells (btC a ca b) 28) = W4 at *
        generalize W3.heap.size = g at *
        clear l1
        go_loopw [33] (fun i wr => ∃ (k : Nat) (bk : Bt) (a1 a2 : Option Addr) (c1 c2 : Nat), k ≤ l.length ∧ i = .int .i64 k ∧ Hid (RunI w g c bk a1 a2 c1 c2 wr) ∧ rightBt bk = true) (fun i _ => l.length - (intOf i).toNat)
        case atStart => exact ⟨0, b, a, a, ca, ca, Nat.zero_le _, rfl, V4, hr⟩
        case round =>
          clear V4 hr
          obtain ⟨k, bk, a1, a2, c1, c2, hk, rfl, V, hr⟩ := hrel
          by_cases hlt : k < l.length
          rotate_left
          · go_wp2_with fail
            go_ret
            exact ⟨rfl, V.out.caps.low⟩
          · have HP := Lib.hid (HL.out.below V.out.caps.low)
            obtain ⟨bb, oo, rfl, hbb, d0, d1, d2⟩ := HP.out.at k hlt
            have hcap := HP.out.cap
            have hid := HP.out.each _ (List.getElem_mem hlt)
            generalize l[k] = act at *
            have CT := Lib.hid (fun W => refTally_any act.wt W)
            go_wp2_with fail
            refine (CT.out _).mono ?_
            rintro e w5 ⟨rfl, rfl⟩
            have B5 := Lib.hid ((Below.refl wr.heap.size wr).alloc (Nat.le_refl _) (.cells #[.int .i64 act.kind, .string act.id, .int .i64 act.wt] 42))
            have V5 := Lib.hid (V.out.below B5.out)
            have A5 : Hid (Row (wr.alloc (.cells #[.int .i64 act.kind, .string act.id, .int .i64 act.wt] 42)) wr.heap.size 42 #[.int .i64 act.kind, .string act.id, .int .i64 act.wt]) := Lib.hid (heap_alloc_new _ _)
            have hga : g < wr.heap.size := V.out.two.lt
            clear V B5 HP CT d0 d1 d2
            cases ht : tallyB act.wt with
            | false =>
              go_wp2_with fail
              go_ret
              exact ⟨rfl, V5.out.caps.low⟩
            | true =>
              by_cases h60 : 60 < (act.id.size : Int)
              · go_wp2_with fail
                go_ret
                exact ⟨rfl, V5.out.caps.low⟩
              · obtain ⟨W5, hW5⟩ : ∃ W, wr.alloc (.cells #[.int .i64 act.kind, .string act.id, .int .i64 act.wt] 42) = W := ⟨_, rfl⟩
                rw [hW5] at V5 A5
                have hr0 := rightBt_of hr
                have hml : bk.mem.length ≤ 64 := hr0.2.2.2.2.2.2.1
                have hnd : bk.mem.Nodup := hr0.2.2.2.2.2.2.2.2
                have htw : tallyB bk.wt = true := (tallyB_iff _).2 hr0.2.1
                clear hr0
                have e1 : W5.cell? ⟨wr.heap.size, 1, none⟩ = some (.string act.id) := A5.out.cell 1
                have F5 := Lib.hid (OwnT.fresh W5 W5.heap.size (Nat.le_refl _))
                have B6 := Lib.hid ((Below.refl W5.heap.size W5).alloc (Nat.le_refl _) (.cells #[] 9))
                have m8 : (W5.alloc (.cells #[] 9)).cell? ⟨w.heap.size, 8, none⟩ = some (.slice a1 bk.mem.length c1) := (V5.out.below B6.out).one.cell 8
                have M6 := Lib.hid (V5.out.m1.below B6.out)
                go_wp2_with (at_builtin; go_must (refine wpList_append_texts rfl _ _ rfl W5.heap.size (.slice (some ⟨W5.heap.size, 0, none⟩) 0 0) [] bk.mem rfl F5.out a1 c1 rfl M6.out (by simp; omega) (by simp) ?_))
                rintro v6 w6 o6 g6
                obtain ⟨a3, c3, e6⟩ := o6.shape
                subst e6
                have B7 := Lib.hid (B6.out.grown g6 (by simp) F5.out.row)
                have V7 := Lib.hid (V5.out.next B7.out (.cells (btC a1 c1 bk) 28))
                have hga5 : wr.heap.size < W5.heap.size := A5.out.lt
                have B8 := Lib.hid ((Below.refl w6.heap.size w6).alloc (Nat.le_refl _) (.cells (btC a1 c1 bk) 28))
                have O7 : Hid (OldI w g bk act a1 a3 c1 c3 wr.heap.size w6.heap.size W5.heap.size (w6.alloc (.cells (btC a1 c1 bk) 28))) := Lib.hid ⟨(A5.out.below B7.out).below B8.out, heap_alloc_new _ _, V7.out.m1, o6.below B8.out, V7.out.f1, hg3, hga, by have := B7.out.size; omega, by omega⟩
                have ldo := ld_bt (V5.out.below B7.out).one
                clear B6 M6 F5 B7 A5 V5 o6 g6 m8 e1
                have k7 : (w6.alloc (.cells (btC a1 c1 bk) 28)).cell? ⟨wr.heap.size, 0, none⟩ = some (.int .i64 act.kind) := O7.out.act.cell 0
                have k8 : (w6.alloc (.cells (btC a1 c1 bk) 28)).cell? ⟨wr.heap.size, 1, none⟩ = some (.string act.id) := O7.out.act.cell 1
                have k9 : (w6.alloc (.cells (btC a1 c1 bk) 28)).cell? ⟨wr.heap.size, 2, none⟩ = some (.int .i64 act.wt) := O7.out.act.cell 2
                have ld1 := ld_bt V7.out.one
                have ldc := ld_cp V7.out.caps.row
                by_cases hkind : act.kind = 0
                · have ek : (act.kind == 0) = true := by simp [hkind]
                  clear hkind
                  go_wp2_with fail
                  clear hW5
                  generalize wr.heap.size = ga at *
                  generalize w6.heap.size = gk at *
                  generalize W5.heap.size = base at *
                  have C1 := Lib.hid (btJoin_any a1 c1 bk c act.id act.wt _ V7.out.m1 (by omega) hid)
                  have C2 := Lib.hid (fun W hW => refBtJoin_any a2 c2 bk c act.id act.wt W hW (by omega) hid htw ht)
                  have hrn : rightBt (joinV bk c act.id act.wt) = true := join_right hr hc
                  generalize joinV bk c act.id act.wt = bn at *
                  generalize joinE bk c act.id act.wt = en at *
                  refine C1.out.mono ?_
                  rintro e w8 ⟨a8, c8, rfl, o8, b8⟩
                  have V8 := Lib.hid (V7.out.put1 b8 o8 hg3)
                  have O8 := Lib.hid ((O7.out.below b8).set1 (btC a8 c8 bn))
                  have s8 := st_bt (V7.out.below b8).one rfl a8 c8 bn
                  clear C1 o8 b8 V7 O7 k7 k8 k9 ldo ld1 ldc B8
                  have k8 : (w8.setRow w.heap.size (btC a8 c8 bn)).cell? ⟨ga, 1, none⟩ = some (.string act.id) := O8.out.act.cell 1
                  have k9 : (w8.setRow w.heap.size (btC a8 c8 bn)).cell? ⟨ga, 2, none⟩ = some (.int .i64 act.wt) := O8.out.act.cell 2
                  have ld2 := ld_bt V8.out.two
                  have ldc := ld_cp V8.out.caps.row
                  go_wp2_with fail
                  refine (C2.out _ V8.out.m2).mono ?_
                  rintro e w9 ⟨a9, c9, rfl, o9, b9⟩
                  have V9 := Lib.hid (V8.out.put2 b9 o9 hg3)
                  have O9 := Lib.hid ((O8.out.below b9).set2 (btC a9 c9 bn))
                  have s9 := st_bt (V8.out.below b9).two rfl a9 c9 bn
                  clear C2 o9 b9 V8 O8 k8 k9 ld2 ldc s8
                  go_wp2_with fail
                  clear s9
                  generalize w9.setRow g (btC a9 c9 bn) = W9 at *
                  go_cut [128] (fun v wx => v = .bool false ∧ Hid (RunI w g c bn a8 a9 c8 c9 wx) ∧ Hid (OldI w g bk act a1 a3 c1 c3 ga gk base wx))
                  case first =>
                    have f1 : ∀ p : Far W9, LdX 28 (.pointer (some ⟨w.heap.size, 0, none⟩)) (farOf W9 p) = .ok (.value (btV a8 c8 bn)) (farOf W9 p) := fun p => ld_bt (V9.out.below (far_below W9 p)).one
                    have f2 : ∀ p : Far W9, LdX 28 (.pointer (some ⟨g, 0, none⟩)) (farOf W9 p) = .ok (.value (btV a9 c9 bn)) (farOf W9 p) := fun p => ld_bt (V9.out.below (far_below W9 p)).two
                    have f3 : ∀ p : Far W9, LdX 23 (.pointer (some ⟨w.heap.size + 1, 0, none⟩)) (farOf W9 p) = .ok (.value (cpV c)) (farOf W9 p) := fun p => ld_cp (V9.out.below (far_below W9 p)).caps.row
                    have f4 : ∀ p : Far W9, (farOf W9 p).cell? ⟨gk, 8, none⟩ = some (.slice a1 bk.mem.length c1) := fun p => (O9.out.below (far_below W9 p)).kept.cell 8
                    have f5 : ∀ p : Far W9, (farOf W9 p).cell? ⟨g, 8, none⟩ = some (.slice a9 bn.mem.length c9) := fun p => (V9.out.below (far_below W9 p)).two.cell 8
                    have f6 : ∀ p : Far W9, (farOf W9 p).cell? ⟨g, 1, none⟩ = some (.int .i64 bn.wt) := fun p => (V9.out.below (far_below W9 p)).two.cell 1
                    have f7 : ∀ p : Far W9, (farOf W9 p).cell? ⟨w.heap.size + 1, 0, none⟩ = some (.int .i64 c.count) := fun p => (V9.out.below (far_below W9 p)).caps.row.cell 0
                    have f8 : ∀ p : Far W9, (farOf W9 p).cell? ⟨w.heap.size + 1, 1, none⟩ = some (.int .i64 c.wt) := fun p => (V9.out.below (far_below W9 p)).caps.row.cell 1
                    have CS : Hid (∀ p : Far W9, Calls Try.prog 20 #[btV a8 c8 bn, btV a9 c9 bn] (farOf W9 p) (Tell true (farOf W9 p))) := Lib.hid (fun p => by
                      have := refBtSame_any a8 a9 c8 c9 bn bn (farOf W9 p) (btP_of (V9.out.below (far_below W9 p)).m1 (fits_right hrn)) (btP_of (V9.out.below (far_below W9 p)).m2 (fits_right hrn))
                      rwa [sameBt_self] at this)
                    have CF := Lib.hid (fun p : Far W9 => full_any a8 c8 bn c (farOf W9 p))
                    have hf := Lib.hid (show fullB bn c = (decide (c.count ≤ (bn.mem.length : Int)) || decide (c.wt ≤ bn.wt)) from rfl)
                    cases hu1 : decide (c.count ≤ (bn.mem.length : Int)) <;> cases hu2 : decide (c.wt ≤ bn.wt)
                    all_goals
                      rw [hf.out, hu1, hu2] at CF
                      refine wp_region_far (by kernel_rfl) (by kernel_rfl) ?_
                      repeat (first | go_big_quiet_step (first | (go_at_call 20; exact calls_far (CS.out _)) | (go_at_call 15; exact calls_far (CF.out _))) | quiet_step (first | (go_at_call 20; exact calls_far (CS.out _)) | (go_at_call 15; exact calls_far (CF.out _))))
                      refine wpQuiet_nil ?_
                      intro _ hw'
                      obtain ⟨p, hw''⟩ := hw'
                      subst hw''
                      go_wp2_with fail
                      go_meet
                      exact ⟨rfl, Lib.hid (V9.out.below (far_below W9 p)), Lib.hid (O9.out.below (far_below W9 p))⟩
                  case rest =>
                    obtain ⟨rfl, V, O⟩ := hcut
                    clear V9 O9
                    go_wp2_with fail
                    go_loopw [131] (fun i wi => ∃ j : Nat, j ≤ bk.mem.length ∧ i = .int .i64 j ∧ Hid (Below wc.heap.size wc wi)) (fun i _ => bk.mem.length - (intOf i).toNat)
                    case atStart => exact ⟨0, Nat.zero_le _, rfl, Lib.hid (Below.refl _ _)⟩
                    case round =>
                      obtain ⟨j, hj, rfl, BI⟩ := hrel
                      by_cases hlt2 : j < bk.mem.length
                      · have HO := Lib.hid (O.out.below BI.out)
                        obtain ⟨b1, o1, rfl, q1, r1⟩ := HO.out.mem.at j hlt2
                        obtain ⟨b3, o3, rfl, q3, r3⟩ := HO.out.was.reads.2.at j hlt2
                        have p1 := HO.out.mem.cap
                        have p3 := HO.out.was.reads.2.cap
                        have m8 : wr.cell? ⟨gk, 8, none⟩ = some (.slice (some ⟨b1, o1, none⟩) bk.mem.length c1) := HO.out.kept.cell 8
                        generalize bk.mem[j] = x at *
                        go_wp2_with fail
                        go_quiet (fail)
                        go_wp2_with fail
                        go_roundw
                        case rel => exact ⟨j + 1, by omega, by go_num, Lib.hid (below_drewN BI.out _)⟩
                        case measure => simp [intOf]; omega
                      · have VN := Lib.hid (V.out.below BI.out)
                        clear V O BI
                        go_wp2_with fail
                        go_roundw
                        case rel => exact ⟨k + 1, bn, a8, a9, c8, c9, by omega, by go_num, VN, hrn⟩
                        case measure => simp [intOf]; omega
                · have ek : (act.kind == 0) = false := by simpa using hkind
                  go_wp2_with fail
                  clear hW5
                  generalize wr.heap.size = ga at *
                  generalize w6.heap.size = gk at *
                  generalize W5.heap.size = base at *
                  have C1 := Lib.hid (btEvict_any a1 c1 bk act.id act.wt _ V7.out.m1 (by omega) hnd)
                  have C2 := Lib.hid (fun W hW => refBtEvict_any a2 c2 bk act.id act.wt W hW (by omega) htw ht)
                  have hrn : rightBt (evictV bk act.id act.wt) = true := evict_right hr
                  generalize evictV bk act.id act.wt = bn at *
                  generalize evictE bk act.id = en at *
                  refine C1.out.mono ?_
                  rintro e w8 ⟨a8, c8, rfl, o8, b8⟩
                  have V8 := Lib.hid (V7.out.put1 b8 o8 hg3)
                  have O8 := Lib.hid ((O7.out.below b8).set1 (btC a8 c8 bn))
                  have s8 := st_bt (V7.out.below b8).one rfl a8 c8 bn
                  clear C1 o8 b8 V7 O7 k7 k8 k9 ldo ld1 ldc B8
                  have k8 : (w8.setRow w.heap.size (btC a8 c8 bn)).cell? ⟨ga, 1, none⟩ = some (.string act.id) := O8.out.act.cell 1
                  have k9 : (w8.setRow w.heap.size (btC a8 c8 bn)).cell? ⟨ga, 2, none⟩ = some (.int .i64 act.wt) := O8.out.act.cell 2
                  have ld2 := ld_bt V8.out.two
                  have ldc := ld_cp V8.out.caps.row
                  go_wp2_with fail
                  refine (C2.out _ V8.out.m2).mono ?_
                  rintro e w9 ⟨a9, c9, rfl, o9, b9⟩
                  have V9 := Lib.hid (V8.out.put2 b9 o9 hg3)
                  have O9 := Lib.hid ((O8.out.below b9).set2 (btC a9 c9 bn))
                  have s9 := st_bt (V8.out.below b9).two rfl a9 c9 bn
                  clear C2 o9 b9 V8 O8 k8 k9 ld2 ldc s8
                  go_wp2_with fail
                  clear s9
                  generalize w9.setRow g (btC a9 c9 bn) = W9 at *
                  go_cut [128] (fun v wx => v = .bool false ∧ Hid (RunI w g c bn a8 a9 c8 c9 wx) ∧ Hid (OldI w g bk act a1 a3 c1 c3 ga gk base wx))
                  case first =>
                    have f1 : ∀ p : Far W9, LdX 28 (.pointer (some ⟨w.heap.size, 0, none⟩)) (farOf W9 p) = .ok (.value (btV a8 c8 bn)) (farOf W9 p) := fun p => ld_bt (V9.out.below (far_below W9 p)).one
                    have f2 : ∀ p : Far W9, LdX 28 (.pointer (some ⟨g, 0, none⟩)) (farOf W9 p) = .ok (.value (btV a9 c9 bn)) (farOf W9 p) := fun p => ld_bt (V9.out.below (far_below W9 p)).two
                    have f3 : ∀ p : Far W9, LdX 23 (.pointer (some ⟨w.heap.size + 1, 0, none⟩)) (farOf W9 p) = .ok (.value (cpV c)) (farOf W9 p) := fun p => ld_cp (V9.out.below (far_below W9 p)).caps.row
                    have f4 : ∀ p : Far W9, (farOf W9 p).cell? ⟨gk, 8, none⟩ = some (.slice a1 bk.mem.length c1) := fun p => (O9.out.below (far_below W9 p)).kept.cell 8
                    have f5 : ∀ p : Far W9, (farOf W9 p).cell? ⟨g, 8, none⟩ = some (.slice a9 bn.mem.length c9) := fun p => (V9.out.below (far_below W9 p)).two.cell 8
                    have f6 : ∀ p : Far W9, (farOf W9 p).cell? ⟨g, 1, none⟩ = some (.int .i64 bn.wt) := fun p => (V9.out.below (far_below W9 p)).two.cell 1
                    have f7 : ∀ p : Far W9, (farOf W9 p).cell? ⟨w.heap.size + 1, 0, none⟩ = some (.int .i64 c.count) := fun p => (V9.out.below (far_below W9 p)).caps.row.cell 0
                    have f8 : ∀ p : Far W9, (farOf W9 p).cell? ⟨w.heap.size + 1, 1, none⟩ = some (.int .i64 c.wt) := fun p => (V9.out.below (far_below W9 p)).caps.row.cell 1
                    have CS : Hid (∀ p : Far W9, Calls Try.prog 20 #[btV a8 c8 bn, btV a9 c9 bn] (farOf W9 p) (Tell true (farOf W9 p))) := Lib.hid (fun p => by
                      have := refBtSame_any a8 a9 c8 c9 bn bn (farOf W9 p) (btP_of (V9.out.below (far_below W9 p)).m1 (fits_right hrn)) (btP_of (V9.out.below (far_below W9 p)).m2 (fits_right hrn))
                      rwa [sameBt_self] at this)
                    have CF := Lib.hid (fun p : Far W9 => full_any a8 c8 bn c (farOf W9 p))
                    have hf := Lib.hid (show fullB bn c = (decide (c.count ≤ (bn.mem.length : Int)) || decide (c.wt ≤ bn.wt)) from rfl)
                    cases hu1 : decide (c.count ≤ (bn.mem.length : Int)) <;> cases hu2 : decide (c.wt ≤ bn.wt)
                    all_goals
                      rw [hf.out, hu1, hu2] at CF
                      refine wp_region_far (by kernel_rfl) (by kernel_rfl) ?_
                      repeat (first | go_big_quiet_step (first | (go_at_call 20; exact calls_far (CS.out _)) | (go_at_call 15; exact calls_far (CF.out _))) | quiet_step (first | (go_at_call 20; exact calls_far (CS.out _)) | (go_at_call 15; exact calls_far (CF.out _))))
                      refine wpQuiet_nil ?_
                      intro _ hw'
                      obtain ⟨p, hw''⟩ := hw'
                      subst hw''
                      go_wp2_with fail
                      go_meet
                      exact ⟨rfl, Lib.hid (V9.out.below (far_below W9 p)), Lib.hid (O9.out.below (far_below W9 p))⟩
                  case rest =>
                    obtain ⟨rfl, V, O⟩ := hcut
                    clear V9 O9
                    go_wp2_with fail
                    go_loopw [131] (fun i wi => ∃ j : Nat, j ≤ bk.mem.length ∧ i = .int .i64 j ∧ Hid (Below wc.heap.size wc wi)) (fun i _ => bk.mem.length - (intOf i).toNat)
                    case atStart => exact ⟨0, Nat.zero_le _, rfl, Lib.hid (Below.refl _ _)⟩
                    case round =>
                      obtain ⟨j, hj, rfl, BI⟩ := hrel
                      by_cases hlt2 : j < bk.mem.length
                      · have HO := Lib.hid (O.out.below BI.out)
                        obtain ⟨b1, o1, rfl, q1, r1⟩ := HO.out.mem.at j hlt2
                        obtain ⟨b3, o3, rfl, q3, r3⟩ := HO.out.was.reads.2.at j hlt2
                        have p1 := HO.out.mem.cap
                        have p3 := HO.out.was.reads.2.cap
                        have m8 : wr.cell? ⟨gk, 8, none⟩ = some (.slice (some ⟨b1, o1, none⟩) bk.mem.length c1) := HO.out.kept.cell 8
                        generalize bk.mem[j] = x at *
                        go_wp2_with fail
                        go_quiet (fail)
                        go_wp2_with fail
                        go_roundw
                        case rel => exact ⟨j + 1, by omega, by go_num, Lib.hid (below_drewN BI.out _)⟩
                        case measure => simp [intOf]; omega
                      · have VN := Lib.hid (V.out.below BI.out)
                        clear V O BI
                        go_wp2_with fail
                        go_roundw
                        case rel => exact ⟨k + 1, bn, a8, a9, c8, c9, by omega, by go_num, VN, hrn⟩
                        case measure => simp [intOf]; omega


set_option maxRecDepth 100000 in
theorem batchRuns_lifted (os : Os) (started : os.Started) (H : Type) (enc : TypeId × Value → H) :
    ReturnsInHanded {} Try.checked os 5 .any (Rows.batchRunsSpec.pre6 enc Try.prog Try.f5 Rows.batchRunsRow.domain false) (Rows.batchRunsSpec.post enc Try.prog Try.f5 false true false false) := by
  refine returnsInHanded_of_change (C := Try.checked) own started (by kernel_rfl) Try.func5
    (ChangeSpec.witness6 (enc := enc) (C := Try.checked) false ⟨#[], #[.agg #[.int .i64 0, .int .i64 0, .int .i64 0, .int .i64 0, .int .i64 0, .string ⟨#[]⟩, .string ⟨#[]⟩, .string ⟨#[]⟩, .slice none 0 0], .agg #[.int .i64 0, .int .i64 0], .slice none 0 0], []⟩ 8 (by kernel_rfl) (by kernel_rfl) (by kernel_rfl) (by kernel_rfl)) ?_
  intro W base args ds gs before hval0 hW _ _
  have hval : ∀ (j : Nat) t v, Try.f5.params[j]? = some t → args[j]? = some v → Value.okWide Try.prog W .any base t v := hval0
  have hW' := hW
  obtain ⟨p, q, hA0, hV, rfl, _, _⟩ := hW
  have hA : DataW.TrodAll enc Try.prog W 0 (fun _ => true) true Try.f5.params.toList args.toList ds p := hA0
  rw [Try.params5] at hA hval
  obtain ⟨v0, vs0, d0, ds0, p0, q_0, hargs, rfl, rfl, h0, r0⟩ := trodAll_cons hA
  obtain ⟨v1, vs1, d1, ds1, p1, q_1, rfl, rfl, rfl, h1, r1⟩ := trodAll_cons r0
  obtain ⟨v2, vs2, d2, ds2, p2, q_2, rfl, rfl, rfl, h2, r2⟩ := trodAll_cons r1
  obtain ⟨rfl, rfl, rfl⟩ := trodAll_nil r2
  obtain rfl : args = #[v0, v1, v2] := by cases args; simp_all
  obtain ⟨rfl, rfl⟩ := trodVars_none hV
  clear hA0 hval0
  simp only [List.append_nil] at hW'
  obtain ⟨q0, cap0, o0, rfl, hS0⟩ := batch_of_trod (hval 0 28 v0 rfl rfl) h0
  have hlt0 : ∀ x ∈ p0, x.block < W.heap.size := fun x hx => by simpa using hW'.lt x (by simpa using (by simp [hx]))
  obtain ⟨c1, rfl⟩ := caps_of_trod (hval 1 23 v1 rfl rfl) h1
  have hlt1 : ∀ x ∈ p1, x.block < W.heap.size := fun x hx => by simpa using hW'.lt x (by simpa using (by simp [hx]))
  obtain ⟨q2, cap2, l2, rfl, hS2, hm2⟩ := acts_of_trod (hval 2 40 v2 rfl rfl) h2
  have hlt2 : ∀ x ∈ p2, x.block < W.heap.size := fun x hx => by simpa using hW'.lt x (by simpa using (by simp [hx]))
  refine (runs_walk q0 q2 cap0 cap2 o0 c1 l2 W hS0 hS2).mono fun e W' ⟨he, hb⟩ => ?_
  subst he
  have hT : DataW.TrodAll enc Try.prog W' 0 (fun b => decide (b < W.heap.size)) true _ _ _ _ := (trodAll_cons_mk (Below.trod laidOut (by kernel_rfl) (of_decide_eq_true (by kernel_rfl)) h0 hb hlt0) (trodAll_cons_mk (Below.trod laidOut (by kernel_rfl) (of_decide_eq_true (by kernel_rfl)) h1 hb hlt1) (trodAll_cons_mk (Below.trod laidOut (by kernel_rfl) (of_decide_eq_true (by kernel_rfl)) h2 hb hlt2) trodAll_mk0)))
  simp only [List.append_nil] at hT
  exact ⟨_, rfl, _, _, _, [], p0 ++ (p1 ++ (p2)), [], hW', trodAll_mk1 (shut_bool Try.underlying4 _), hT, rfl, hb.frame _, fun h => by cases h⟩

theorem batchRuns_holds : Rows.BatchRunsSaid :=
  OpenClaim.holds_of_wide 5 Try.f5 rfl rfl rfl rfl rfl rfl rfl ⟨rfl, rfl, rfl, rfl, rfl⟩ rfl rfl rfl rfl rfl (by kernel_rfl) Try.func5 (by kernel_rfl)
    (of_decide_eq_true (by kernel_rfl)) (by unfold Func.isWrapper; first | (rw [if_pos (by decide +kernel)]; kernel_rfl) | (rw [if_neg (by decide +kernel)]; exact ⟨rfl, rfl⟩))
    (fun os started H enc _ => batchRuns_lifted os started H enc)
#print axioms batchRuns_holds


end Go.Proofs.Ytieoihmndpkdoaa
