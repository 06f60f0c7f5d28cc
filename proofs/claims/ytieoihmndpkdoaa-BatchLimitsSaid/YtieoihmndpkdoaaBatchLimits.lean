/- BatchLimits: the law returns true for any caps, any acts and any number: whoever joins, from an empty batch on, there are never more orders than the caps say, nor heavier, but for one alone; each is in once; a part is as it is told. It has no conditions. -/
import Derived.Test.YtieoihmndpkdoaaBtAlive
import Derived.Test.YtieoihmndpkdoaaBtVo
import Derived.Test.YtieoihmndpkdoaaBtRight
import Derived.Test.YtieoihmndpkdoaaBtSame
import Derived.Test.YtieoihmndpkdoaaBtArgs
import Derived.Test.YtieoihmndpkdoaaBtJoin
import Derived.Test.YtieoihmndpkdoaaBtTake
namespace Go.Proofs.Ytieoihmndpkdoaa
open Go.ChangeShapes Go.WideShapes Go.ChangeAt Go.RowKit

set_option maxRecDepth 100000
attribute [local go_sem ↓] ldBt stBt alBt bxBt ldCp bxCp
attribute [local go_sem] al_bt bx_bt bx_cp alloc_setRow

/-- What is never too much. -/
def LimB (c : Cp) (b : Bt) : Prop := rightBt b = true ∧ b.phase = 1 ∧ (b.mem.length : Int) ≤ c.count ∧ (1 < b.mem.length → b.wt ≤ c.wt)
theorem LimB.join {c : Cp} {b : Bt} (h : LimB c b) (hc : capsB c = true) (id : ByteArray) (u : Int) : LimB c (joinV b c id u) := by
  obtain ⟨h1, h2, h3, h4⟩ := h
  refine ⟨join_right h1 hc, ?_⟩
  rcases joinV_cases b c id u with ⟨he, hv⟩ | ⟨he, hv⟩
  · rw [hv]
    obtain ⟨k1, k2, k3, k4, k5⟩ := joinE_ok he
    have hl : (joinD b id u).mem.length = b.mem.length + 1 := by simp [joinD]
    have hcc : 1 ≤ c.count := by simp only [capsB, Bool.and_eq_true, decide_eq_true_eq] at hc; exact hc.1.1
    simp only [roomB, Bool.or_eq_true, Bool.and_eq_true, decide_eq_true_eq] at k5
    have hw : (joinD b id u).wt = addV b.wt u := rfl
    refine ⟨k1, ?_, fun hlt => ?_⟩ <;> omega
  · rw [hv]
    exact ⟨h2, h3, h4⟩

theorem limits_zero {c : Cp} (hc : capsB c = true) : LimB c bt0 := by
  have hcc : 1 ≤ c.count := by simp only [capsB, Bool.and_eq_true, decide_eq_true_eq] at hc; exact hc.1.1
  refine ⟨by kernel_rfl, rfl, ?_, fun h => ?_⟩
  · show ((0 : Nat) : Int) ≤ _
    omega
  · exact absurd h (by decide)

set_option maxHeartbeats 16000000 in
theorem limits_walk (q : Option Addr) (cap : Nat) (l : List Ac) (c : Cp) (id : Int) (w : World) (hS : ActsP w q cap l) : Calls Try.prog 7 #[cpV c, .slice q l.length cap, .int .i64 id] w (Tell true w) := by
  have K0 := Lib.hid (CapsI.new w c)
  have HL := Lib.hid hS
  have hll := hS.len
  clear hS
  have sa : ∀ W : World, Slot (W.alloc (.cells zB 28)) W.heap.size := fun W => Slot.new W
  have st : ∀ (W : World) g a cap x, Slot W g → StX 28 (.pointer (some ⟨g, 0, none⟩)) (btV a cap x) W = .ok .skip (W.setRow g (btC a cap x)) := fun W g a cap x h => h.store a cap x
  go_enter Try.func7, Try.ntmps7
  go_wp2_with fail
  generalize w.alloc (.cells #[.int .i64 c.count, .int .i64 c.wt] 23) = W0 at *
  refine (alive_any _).mono ?_
  rintro e W1 ⟨rfl, b1⟩
  have K1 := Lib.hid (K0.out.below b1)
  clear b1 K0
  have l1 := ld_cp K1.out.row
  go_wp2_with fail
  refine (caps_any c W1).mono ?_
  rintro e W2 ⟨rfl, b2⟩
  have K2 := Lib.hid (K1.out.below b2)
  clear b2 K1 l1
  cases hc : capsB c with
  | false =>
    go_wp2_with fail
    go_ret
    exact ⟨rfl, K2.out.low⟩
  | true =>
    by_cases h100 : 100 < (l.length : Int)
    · go_wp2_with fail
      go_ret
      exact ⟨rfl, K2.out.low⟩
    · have Z := Lib.hid (limits_zero hc)
      have CE := Lib.hid (empty_any W2)
      unfold EmptyPost at CE
      have z1 : bt0.wt = 0 := rfl
      have z2 := Lib.hid (show bt0.mem = [] from rfl)
      generalize bt0 = x0 at *
      go_wp2_with fail
      refine CE.out.mono ?_
      rintro e w3 ⟨rfl, b3⟩
      have V3 := Lib.hid (show Vo (w3.alloc (.cells (btC none 0 x0) 28)) w3.heap.size (w3.heap.size + 1) none 0 x0 from ⟨heap_alloc_new _ _, by rw [z2.out]; exact OwnT.nil _ _⟩)
      have K3 := Lib.hid (K2.out.next b3 (.cells (btC none 0 x0) 28))
      have hg3 : w.heap.size < w3.heap.size := (K2.out.below b3).row.lt
      clear b3 CE K2
      go_wp2_with fail
      generalize w3.alloc (.cells (btC none 0 x0) 28) = W3 at *
      generalize w3.heap.size = g at *
      go_loopw [8, 28] (fun s i wr => ∃ (k : Nat) (bk : Bt) (a' : Option Addr) (c' : Nat), k ≤ l.length ∧ s = .int .i64 bk.wt ∧ i = .int .i64 k ∧ Hid (Vo wr g (g + 1) a' c' bk) ∧ Hid (CapsI w w.heap.size c wr) ∧ Hid (LimB c bk)) (fun _ i _ => l.length - (intOf i).toNat)
      case atStart => exact ⟨0, x0, none, 0, Nat.zero_le _, by rw [z1], rfl, V3, K3, Z⟩
      case round =>
        clear V3 K3 Z z1 z2
        obtain ⟨k, bk, a1, c1, hk, rfl, rfl, V, K, LB⟩ := hrel
        have hr0 := rightBt_of LB.out.1
        by_cases hlt : k < l.length
        · have HP := Lib.hid (HL.out.below K.out.low)
          obtain ⟨bb, oo, rfl, hbb, d0, d1, d2⟩ := HP.out.at k hlt
          have hcap := HP.out.cap
          have hid := HP.out.each _ (List.getElem_mem hlt)
          generalize l[k] = act at *
          by_cases u0 : act.wt < 0
          · go_wp2_with fail
            go_ret
            exact ⟨rfl, K.out.low.alloc K.out.low.size _⟩
          by_cases u1 : 1000000 < act.wt
          · go_wp2_with fail
            go_ret
            exact ⟨rfl, K.out.low.alloc K.out.low.size _⟩
          by_cases u2 : 60 < (act.id.size : Int)
          · go_wp2_with fail
            go_ret
            exact ⟨rfl, K.out.low.alloc K.out.low.size _⟩
          have B4 := Lib.hid ((Below.refl wr.heap.size wr).alloc (Nat.le_refl _) (.cells #[.int .i64 act.kind, .string act.id, .int .i64 act.wt] 42))
          have V4 := Lib.hid (V.out.below B4.out)
          have K4 := Lib.hid (K.out.below B4.out)
          have A4 : Hid (Row (wr.alloc (.cells #[.int .i64 act.kind, .string act.id, .int .i64 act.wt] 42)) wr.heap.size 42 #[.int .i64 act.kind, .string act.id, .int .i64 act.wt]) := Lib.hid (heap_alloc_new _ _)
          have la := ld_bt V4.out.row
          have lc := ld_cp K4.out.row
          have CJ := Lib.hid (btJoin_any a1 c1 bk c act.id act.wt _ V4.out.mem (by omega) hid)
          have LJ := Lib.hid (LB.out.join hc act.id act.wt)
          have hgg : g < (wr.alloc (.cells #[.int .i64 act.kind, .string act.id, .int .i64 act.wt] 42)).heap.size := V4.out.row.lt
          have hsum : joinE bk c act.id act.wt = 0 → IntKind.i64.wrap (bk.wt + act.wt) = (joinV bk c act.id act.wt).wt := by
            intro he
            obtain ⟨k1, k2, k3, k4, k5⟩ := joinE_ok he
            obtain ⟨e1, e2, e3, e4⟩ := addE_ok k4
            have hv : joinV bk c act.id act.wt = joinD bk act.id act.wt := by unfold joinV; rw [if_pos he]
            rw [hv]
            show _ = addV bk.wt act.wt
            rw [e1, IntKind.wrap_i64]
            omega
          have hsame : joinE bk c act.id act.wt ≠ 0 → bk.wt = (joinV bk c act.id act.wt).wt := by
            intro he
            unfold joinV
            rw [if_neg he]
          clear V K LB hr0
          generalize joinV bk c act.id act.wt = bn at *
          generalize joinE bk c act.id act.wt = ee at *
          go_wp2_with fail
          refine CJ.out.mono ?_
          rintro e w5 ⟨a5, c5, rfl, o5, b5⟩
          have N6 := Lib.hid (Vo.new o5)
          have V6 := Lib.hid (V4.out.next b5 (.cells (btC a5 c5 bn) 28))
          have K6 := Lib.hid (K4.out.next b5 (.cells (btC a5 c5 bn) 28))
          have A6 := Lib.hid ((A4.out.below b5).below ((Below.refl _ _).alloc (Nat.le_refl _) (.cells (btC a5 c5 bn) 28)))
          have ln := ld_bt N6.out.row
          have s7 := st_bt V6.out.row rfl a5 c5 bn
          have P7 := Vo.put V6.out.row N6.out.own hgg
          have V7 := Lib.hid (show Vo _ g (g + 1) a5 c5 bn from ⟨P7.row, P7.own.base hgg⟩)
          have K7 := Lib.hid (K6.out.setRow (g := g) (by omega) (by omega) (btC a5 c5 bn))
          clear la lc CJ o5 b5 N6 V6 K6 A4 V4 K4 B4 P7 hgg d0 d1 d2
          obtain ⟨LB1, LB2, LB3, LB4⟩ := LJ.out
          have m8 : ((w5.alloc (.cells (btC a5 c5 bn) 28)).setRow g (btC a5 c5 bn)).cell? ⟨g, 8, none⟩ = some (.slice a5 bn.mem.length c5) := V7.out.row.cell 8
          have m1 : ((w5.alloc (.cells (btC a5 c5 bn) 28)).setRow g (btC a5 c5 bn)).cell? ⟨g, 1, none⟩ = some (.int .i64 bn.wt) := V7.out.row.cell 1
          have k0 : ((w5.alloc (.cells (btC a5 c5 bn) 28)).setRow g (btC a5 c5 bn)).cell? ⟨w.heap.size, 0, none⟩ = some (.int .i64 c.count) := K7.out.row.cell 0
          have k1 : ((w5.alloc (.cells (btC a5 c5 bn) 28)).setRow g (btC a5 c5 bn)).cell? ⟨w.heap.size, 1, none⟩ = some (.int .i64 c.wt) := K7.out.row.cell 1
          have la := ld_bt V7.out.row
          have hcnt : ¬ c.count < (bn.mem.length : Int) := by omega
          have CR := Lib.hid (btRight_any a5 c5 bn _ (btP_of V7.out.mem (fits_right LB1)))
          rw [LB1] at CR
          by_cases he : ee = 0
          · skip
            have hw := hsum he
            have eb : (ee == 0) = true := by simp [he]
            have e2 : (w5.alloc (.cells (btC a5 c5 bn) 28)).cell? ⟨wr.heap.size, 2, none⟩ = some (.int .i64 act.wt) := A6.out.cell 2
            clear hsum hsame he
            by_cases hone : 1 < (bn.mem.length : Int)
            · have hnw : ¬ c.wt < bn.wt := by have := LB4 (by omega); omega
              go_wp2_with fail
              refine CR.out.mono ?_
              rintro e w8 ⟨rfl, b8⟩
              have V8 := Lib.hid (V7.out.below b8)
              have K8 := Lib.hid (K7.out.below b8)
              clear b8
              go_wp2_with fail
              go_roundw
              case rel => exact ⟨k + 1, bn, a5, c5, by omega, rfl, by go_num, V8, K8, LJ⟩
              case measure => simp [intOf]; omega
            · go_wp2_with fail
              refine CR.out.mono ?_
              rintro e w8 ⟨rfl, b8⟩
              have V8 := Lib.hid (V7.out.below b8)
              have K8 := Lib.hid (K7.out.below b8)
              clear b8
              go_wp2_with fail
              go_roundw
              case rel => exact ⟨k + 1, bn, a5, c5, by omega, rfl, by go_num, V8, K8, LJ⟩
              case measure => simp [intOf]; omega
          · skip
            have hs := hsame he
            have eb : (ee == 0) = false := by simpa using he
            have hne : (bn.wt != bk.wt) = false := by rw [hs]; simp
            clear hsum hsame he
            by_cases hone : 1 < (bn.mem.length : Int)
            · have hnw : ¬ c.wt < bn.wt := by have := LB4 (by omega); omega
              go_wp2_with fail
              refine CR.out.mono ?_
              rintro e w8 ⟨rfl, b8⟩
              have V8 := Lib.hid (V7.out.below b8)
              have K8 := Lib.hid (K7.out.below b8)
              clear b8
              go_wp2_with fail
              go_roundw
              case rel => exact ⟨k + 1, bn, a5, c5, by omega, rfl, by go_num, V8, K8, LJ⟩
              case measure => simp [intOf]; omega
            · go_wp2_with fail
              refine CR.out.mono ?_
              rintro e w8 ⟨rfl, b8⟩
              have V8 := Lib.hid (V7.out.below b8)
              have K8 := Lib.hid (K7.out.below b8)
              clear b8
              go_wp2_with fail
              go_roundw
              case rel => exact ⟨k + 1, bn, a5, c5, by omega, rfl, by go_num, V8, K8, LJ⟩
              case measure => simp [intOf]; omega
        · have m8 : wr.cell? ⟨g, 8, none⟩ = some (.slice a1 bk.mem.length c1) := V.out.row.cell 8
          obtain ⟨m, hm⟩ : ∃ m, bk.mem.length / 2 = m := ⟨_, rfl⟩
          have hq : wrap64 ((bk.mem.length : Int) / 2) = (m : Int) := by have := hr0.2.2.2.2.2.2.1; clear hr0; unfold wrap64; omega
          obtain ⟨a2, c2, s2, k2⟩ := slice_toT (a := a1) V.out.mem.cap m (m : Int) rfl (by clear hr0 hq; omega)
          have hml : (bk.mem.take m).length ≤ 100000 := by have := hr0.2.2.2.2.2.2.1; clear hr0 hq; rw [List.length_take]; omega
          have H2 := Lib.hid (k2 wr V.out.mem)
          generalize bk.mem.take m = half at *
          have CP := Lib.hid (part_any a1 a2 c1 c2 bk id bk.wt half wr H2.out hml)
          have la := ld_bt V.out.row
          clear k2 H2 hr0
          go_wp2_with fail
          refine CP.out.mono ?_
          rintro e w5 ⟨a5, c5, rfl, h5, b5⟩
          have N6 := Lib.hid (Vb.new h5)
          have V6 := Lib.hid (V.out.next b5 (.cells (btC a5 c5 (partV bk id half bk.wt)) 28))
          have K6 := Lib.hid (K.out.next b5 (.cells (btC a5 c5 (partV bk id half bk.wt)) 28))
          have n0 : (w5.alloc (.cells (btC a5 c5 (partV bk id half bk.wt)) 28)).cell? ⟨w5.heap.size, 0, none⟩ = some (.int .i64 id) := N6.out.c0
          have n1 : (w5.alloc (.cells (btC a5 c5 (partV bk id half bk.wt)) 28)).cell? ⟨w5.heap.size, 1, none⟩ = some (.int .i64 bk.wt) := N6.out.c1
          have n2 : (w5.alloc (.cells (btC a5 c5 (partV bk id half bk.wt)) 28)).cell? ⟨w5.heap.size, 2, none⟩ = some (.int .i64 bk.born) := N6.out.c2
          have n3 : (w5.alloc (.cells (btC a5 c5 (partV bk id half bk.wt)) 28)).cell? ⟨w5.heap.size, 3, none⟩ = some (.int .i64 bk.kind) := N6.out.c3
          have n4 : (w5.alloc (.cells (btC a5 c5 (partV bk id half bk.wt)) 28)).cell? ⟨w5.heap.size, 4, none⟩ = some (.int .i64 2) := N6.out.c4
          have n5 : (w5.alloc (.cells (btC a5 c5 (partV bk id half bk.wt)) 28)).cell? ⟨w5.heap.size, 5, none⟩ = some (.string bk.car) := N6.out.c5.1
          have n6 : (w5.alloc (.cells (btC a5 c5 (partV bk id half bk.wt)) 28)).cell? ⟨w5.heap.size, 6, none⟩ = some (.string bk.zone) := N6.out.c5.2.1
          have n7 : (w5.alloc (.cells (btC a5 c5 (partV bk id half bk.wt)) 28)).cell? ⟨w5.heap.size, 7, none⟩ = some (.string bk.serv) := N6.out.c5.2.2
          have n8 : (w5.alloc (.cells (btC a5 c5 (partV bk id half bk.wt)) 28)).cell? ⟨w5.heap.size, 8, none⟩ = some (.slice a5 half.length c5) := N6.out.c8
          have v2 : (w5.alloc (.cells (btC a5 c5 (partV bk id half bk.wt)) 28)).cell? ⟨g, 2, none⟩ = some (.int .i64 bk.born) := V6.out.row.cell 2
          have v3 : (w5.alloc (.cells (btC a5 c5 (partV bk id half bk.wt)) 28)).cell? ⟨g, 3, none⟩ = some (.int .i64 bk.kind) := V6.out.row.cell 3
          have v4 : (w5.alloc (.cells (btC a5 c5 (partV bk id half bk.wt)) 28)).cell? ⟨g, 4, none⟩ = some (.int .i64 bk.phase) := V6.out.row.cell 4
          have v5 : (w5.alloc (.cells (btC a5 c5 (partV bk id half bk.wt)) 28)).cell? ⟨g, 5, none⟩ = some (.string bk.car) := V6.out.row.cell 5
          have v6 : (w5.alloc (.cells (btC a5 c5 (partV bk id half bk.wt)) 28)).cell? ⟨g, 6, none⟩ = some (.string bk.zone) := V6.out.row.cell 6
          have v7 : (w5.alloc (.cells (btC a5 c5 (partV bk id half bk.wt)) 28)).cell? ⟨g, 7, none⟩ = some (.string bk.serv) := V6.out.row.cell 7
          rw [LB.out.2.1] at v4
          have Q := eq_grT bk.car bk.zone bk.serv bk.car bk.zone bk.serv
          rw [show sameG bk.car bk.zone bk.serv bk.car bk.zone bk.serv = true by simp [sameG]] at Q
          clear CP la m8 s2 h5 b5 N6 V6 V K LB
          go_wp2_with fail
          go_ret
          exact ⟨rfl, K6.out.low⟩


set_option maxRecDepth 100000 in
theorem batchLimits_lifted (os : Os) (started : os.Started) (H : Type) (enc : TypeId × Value → H) :
    ReturnsInHanded {} Try.checked os 7 .any (Rows.batchLimitsSpec.pre6 enc Try.prog Try.f7 Rows.batchLimitsRow.domain false) (Rows.batchLimitsSpec.post enc Try.prog Try.f7 false true false false) := by
  refine returnsInHanded_of_change (C := Try.checked) own started (by kernel_rfl) Try.func7
    (ChangeSpec.witness6 (enc := enc) (C := Try.checked) false ⟨#[], #[.agg #[.int .i64 0, .int .i64 0], .slice none 0 0, .int .i64 0], []⟩ 8 (by kernel_rfl) (by kernel_rfl) (by kernel_rfl) (by kernel_rfl)) ?_
  intro W base args ds gs before hval0 hW _ _
  have hval : ∀ (j : Nat) t v, Try.f7.params[j]? = some t → args[j]? = some v → Value.okWide Try.prog W .any base t v := hval0
  have hW' := hW
  obtain ⟨p, q, hA0, hV, rfl, _, _⟩ := hW
  have hA : DataW.TrodAll enc Try.prog W 0 (fun _ => true) true Try.f7.params.toList args.toList ds p := hA0
  rw [Try.params7] at hA hval
  obtain ⟨v0, vs0, d0, ds0, p0, q_0, hargs, rfl, rfl, h0, r0⟩ := trodAll_cons hA
  obtain ⟨v1, vs1, d1, ds1, p1, q_1, rfl, rfl, rfl, h1, r1⟩ := trodAll_cons r0
  obtain ⟨v2, vs2, d2, ds2, p2, q_2, rfl, rfl, rfl, h2, r2⟩ := trodAll_cons r1
  obtain ⟨rfl, rfl, rfl⟩ := trodAll_nil r2
  obtain rfl : args = #[v0, v1, v2] := by cases args; simp_all
  obtain ⟨rfl, rfl⟩ := trodVars_none hV
  clear hA0 hval0
  simp only [List.append_nil] at hW'
  obtain ⟨c0, rfl⟩ := caps_of_trod (hval 0 23 v0 rfl rfl) h0
  have hlt0 : ∀ x ∈ p0, x.block < W.heap.size := fun x hx => by simpa using hW'.lt x (by simpa using (by simp [hx]))
  obtain ⟨q1, cap1, l1, rfl, hS1, hm1⟩ := acts_of_trod (hval 1 40 v1 rfl rfl) h1
  have hlt1 : ∀ x ∈ p1, x.block < W.heap.size := fun x hx => by simpa using hW'.lt x (by simpa using (by simp [hx]))
  obtain ⟨a2, rfl, rfl, rfl, w2⟩ := open_int Try.underlying2 (hval 2 2 v2 rfl rfl) h2
  refine (limits_walk q1 cap1 l1 c0 a2 W hS1).mono fun e W' ⟨he, hb⟩ => ?_
  subst he
  have hT : DataW.TrodAll enc Try.prog W' 0 (fun b => decide (b < W.heap.size)) true _ _ _ _ := (trodAll_cons_mk (Below.trod laidOut (by kernel_rfl) (of_decide_eq_true (by kernel_rfl)) h0 hb hlt0) (trodAll_cons_mk (Below.trod laidOut (by kernel_rfl) (of_decide_eq_true (by kernel_rfl)) h1 hb hlt1) (trodAll_cons_mk (shut_int Try.underlying2 w2) trodAll_mk0)))
  simp only [List.append_nil] at hT
  exact ⟨_, rfl, _, _, _, [], p0 ++ (p1), [], hW', trodAll_mk1 (shut_bool Try.underlying4 _), hT, rfl, hb.frame _, fun h => by cases h⟩

theorem batchLimits_holds : Rows.BatchLimitsSaid :=
  OpenClaim.holds_of_wide 7 Try.f7 rfl rfl rfl rfl rfl rfl rfl ⟨rfl, rfl, rfl, rfl, rfl⟩ rfl rfl rfl rfl rfl (by kernel_rfl) Try.func7 (by kernel_rfl)
    (of_decide_eq_true (by kernel_rfl)) (by unfold Func.isWrapper; first | (rw [if_pos (by decide +kernel)]; kernel_rfl) | (rw [if_neg (by decide +kernel)]; exact ⟨rfl, rfl⟩))
    (fun os started H enc _ => batchLimits_lifted os started H enc)
#print axioms batchLimits_holds


end Go.Proofs.Ytieoihmndpkdoaa
