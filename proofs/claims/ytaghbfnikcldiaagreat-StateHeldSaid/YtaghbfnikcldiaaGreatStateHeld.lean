/- StateHeld: the law returns true for any state: of one that hangs together each open batch is held by its own kind and group alone, and is found; its members weigh what it says. It has no conditions. -/
import Derived.Test.YtaghbfnikcldiaaGreatStHeldP
import Derived.Test.YtaghbfnikcldiaaGreatStOrd
import Derived.Test.YtaghbfnikcldiaaGreatMgProg
import Derived.Test.YtaghbfnikcldiaaGreatMgStates
namespace Go.Proofs.YtaghbfnikcldiaaGreat
open Go.ChangeShapes Go.WideShapes Go.ChangeAt Go.RowKit

set_option maxRecDepth 100000
attribute [local go_sem ↓] ldOr stOr alOr bxOr bdOr ldBa stBa alBa bxBa bdBa ldSt stSt alSt bxSt bdSt ldEf stEf alEf bxEf eqEf bdEf bsEf ldGr bxGr eqGr ldCa bxCa eqCa
attribute [local go_sem] al_or bx_or st_ornew bd_or al_ba bx_ba st_banew bd_ba al_sta bx_sta st_stnew bd_sta al_ef bx_ef st_new bd_ef bs_ef bs_ef0 bx_gr ne_gr bx_ca ne_ca

/-- The state, a batch in a variable. -/
structure HvI (w : World) (r : StR) (g : Nat) (x : BtR) (W : World) : Prop where
  on : OnI w r W
  var : Row W g 46 (baC x)
  bt : BtP W x.a x.c x.b
theorem HvI.below {w W W' : World} {r : StR} {g : Nat} {x : BtR} (h : HvI w r g x W) (b : Below W.heap.size W W') : HvI w r g x W' := ⟨h.on.below b, h.var.below b, h.bt.below b⟩
theorem count_step (l : List Int) (id : Int) (k : Nat) (h : k < l.length) : (l.take (k + 1)).countP (· == id) = (l.take k).countP (· == id) + (if l[k] == id then 1 else 0) := countP_drop _ l k h

set_option maxHeartbeats 16000000 in
theorem held_walk (HN : NewC) (HR : RightC) (HO : OrderC) (HB : BatchC) (HW : WeightC) (HH : HeldC) (r : StR) (w : World) (h : StP w r) : Calls Tryz.prog 4 #[stV r] w (Tell true w) := by
  have CV := Lib.hid (fun W => alive_of HN HR W)
  have I := Lib.hid (OnI.begin w r h)
  have p1 := h.ords.sl.cap
  have p2 := h.bats.sl.cap
  clear h HN
  go_enter Tryz.func4, Tryz.ntmps4
  go_wp2_with fail
  generalize w.alloc (.cells (stC r) 29) = W0 at *
  refine (CV.out _).mono ?_
  rintro e W ⟨rfl, b1⟩
  replace I := Lib.hid (I.out.below b1)
  clear CV b1
  have ld := ld_sta I.out.one
  have C1 := Lib.hid (fun W hW => great_any r W hW)
  go_wp2_with fail
  refine (C1.out _ I.out.st).mono ?_
  rintro e W1 ⟨rfl, b1⟩
  replace I := Lib.hid (I.out.below b1)
  clear C1 b1 ld
  cases hg : greatB r with
  | true =>
    go_wp2_with fail
    go_ret
    exact ⟨rfl, I.out.low⟩
  | false =>
    have hsm := small_of hg
    have hf := hsm.few
    have C2 := Lib.hid (fun W hW => HR r W hW hf)
    have ld := ld_sta I.out.one
    clear HR
    go_wp2_with fail
    refine (C2.out _ I.out.st).mono ?_
    rintro e W2 ⟨rfl, b2⟩
    replace I := Lib.hid (I.out.below b2)
    clear C2 b2 ld
    cases hr : rightS r.st with
    | false =>
      go_wp2_with fail
      go_ret
      exact ⟨rfl, I.out.low⟩
    | true =>
      have HP := Lib.hid (hung_of hr)
      have CO := Lib.hid (fun id W hW => HO r id W hW hf hr)
      have CB := Lib.hid (fun id W hW => HB r id W hW hf hr)
      have CW := Lib.hid (fun a cap ids W hW hs hm => HW r a cap ids W hW hf hr hs hm)
      have CH := Lib.hid (fun kind a b c W hW => HH r kind a b c W hW hf hr)
      have hl1 := hsm.ords
      have hl2 := hsm.bats
      clear HO HB HW HH hg hsm hf hr
      have c10 := I.out.one.st.2.2.2.2.2.1
      go_wp2_with fail
      go_loopw [27] (fun i wr => ∃ (k : Nat), k ≤ r.bats.length ∧ i = .int .i64 k ∧ Hid (OnI w r wr)) (fun i _ => r.bats.length - (intOf i).toNat)
      case atStart => exact ⟨0, Nat.zero_le _, rfl, I⟩
      case round =>
        clear I c10
        obtain ⟨k, hk, rfl, HI⟩ := hrel
        by_cases hlt : k < r.bats.length
        · obtain ⟨b, o, e, hb, _, ld, hbt⟩ := HI.out.st.bats.ld k hlt
          rw [e]
          clear e
          have hmem : r.bats[k].b ∈ r.st.bats := List.mem_map_of_mem (List.getElem_mem hlt)
          have HQ := Lib.hid (HP.out.weighs hmem)
          have HC := Lib.hid (fun kind => held_once HP.out.bats hmem kind)
          have HS := Lib.hid (findB_self HP.out.bats hmem)
          generalize r.bats[k] = x at *
          have J := Lib.hid (HvI.mk (HI.out.more (.cells (baC x) 46)) (Row.new wr (baC x) 46) (hbt.below ((Below.refl wr.heap.size wr).alloc (Nat.le_refl _) (.cells (baC x) 46))))
          clear hbt hmem
          go_wp2_with fail
          generalize wr.alloc (.cells (baC x) 46) = W3 at *
          generalize wr.heap.size = g at *
          clear HI ld
          go_loopw [5] (fun i wi => ∃ (q : Nat), 1 ≤ q ∧ q ≤ 3 ∧ i = .int .i64 q ∧ Hid (HvI w r g x wi)) (fun i _ => 3 - (intOf i).toNat)
          case atStart => exact ⟨1, by decide, by decide, rfl, J⟩
          case round =>
            clear J
            obtain ⟨q, hq1, hq3, rfl, HJ⟩ := hrel
            by_cases hq : q ≤ 2
            · have ld := ld_sta HJ.out.on.one
              have lg : LdX 35 (.pointer (some ⟨g, 5, none⟩)) wr = .ok (.value (grV x.b.car x.b.zone x.b.serv)) wr := ld_grAt HJ.out.var.b.2.1 HJ.out.var.b.2.2.1 HJ.out.var.b.2.2.2.1
              have CH1 := Lib.hid (CH.out q x.b.car x.b.zone x.b.serv wr HJ.out.on.st)
              have hcnt := HC.out (q : Int)
              have hcnt2 : (heldV (btsOf r.bats) (q : Int) x.b.car x.b.zone x.b.serv).countP (· == x.b.id) = if (q : Int) == x.b.kind && x.b.phase == 1 then 1 else 0 := hcnt
              have HCN := Lib.hid hcnt2
              have HLL := Lib.hid (show (heldV (btsOf r.bats) (q : Int) x.b.car x.b.zone x.b.serv).length ≤ 40 by unfold heldV; rw [List.length_map]; exact Nat.le_trans (List.length_filter_le _ _) (by simpa [btsOf] using hl2))
              clear hcnt hcnt2
              generalize heldV (btsOf r.bats) (q : Int) x.b.car x.b.zone x.b.serv = l at *
              go_wp2_with fail
              refine CH1.out.mono ?_
              rintro e w5 ⟨a5, c5, rfl, hI5, b5⟩
              have J5 := Lib.hid (HJ.out.below b5)
              have I5 := Lib.hid hI5
              have p5 := hI5.cap
              clear hI5 b5 ld lg CH1 HJ
              go_wp2_with fail
              go_loopw [6, 41] (fun n i wi => ∃ (k : Nat), k ≤ l.length ∧ i = .int .i64 k ∧ n = .int .i64 ((l.take k).countP (· == x.b.id) : Nat) ∧ Hid (HvI w r g x wi) ∧ Hid (Ints8P wi a5 c5 l)) (fun _ i _ => l.length - (intOf i).toNat)
              case atStart => exact ⟨0, Nat.zero_le _, rfl, rfl, J5, I5⟩
              case round =>
                clear J5 I5
                obtain ⟨j, hj, rfl, rfl, HJ, HI⟩ := hrel
                by_cases hjl : j < l.length
                · obtain ⟨b, o, e, hb, c0⟩ := HI.out.at j hjl
                  have HI2 : Hid (Ints8P wr (some ⟨b, o, none⟩) c5 l) := by rw [← e]; exact HI
                  rw [e]
                  clear e
                  have HD := Lib.hid (count_step l x.b.id j hjl)
                  have hn : (l.take j).countP (· == x.b.id) ≤ j := Nat.le_trans List.countP_le_length (by rw [List.length_take]; omega)
                  have hlm : l.length ≤ 40 := HLL.out
                  generalize l[j] = y at *
                  generalize (l.take j).countP (· == x.b.id) = n at *
                  have d0 := HJ.out.var.b.1.1
                  cases q1 : (y == x.b.id) with
                  | true =>
                    have HN := Lib.hid (show (l.take (j + 1)).countP (· == x.b.id) = n + 1 by rw [HD.out, q1]; rfl)
                    go_wp2_with fail
                    go_roundw
                    case rel => exact ⟨j + 1, by omega, by go_num, by rw [HN.out]; go_num, HJ, HI2⟩
                    case measure => simp [intOf]; omega
                  | false =>
                    have HN := Lib.hid (show (l.take (j + 1)).countP (· == x.b.id) = n by rw [HD.out, q1]; rfl)
                    go_wp2_with fail
                    go_roundw
                    case rel => exact ⟨j + 1, by omega, by go_num, by rw [HN.out], HJ, HI2⟩
                    case measure => simp [intOf]; omega
                · have HT := Lib.hid (show (l.take j).countP (· == x.b.id) = if (q : Int) == x.b.kind && x.b.phase == 1 then 1 else 0 by rw [List.take_of_length_le (by omega)]; exact HCN.out)
                  rw [HT.out]
                  have d3 := HJ.out.var.b.1.2.2.2.1
                  have d4 := HJ.out.var.b.1.2.2.2.2
                  cases q1 : ((q : Int) == x.b.kind) with
                  | false =>
                    have hz : (if false && x.b.phase == 1 then 1 else 0 : Nat) = 0 := rfl
                    rw [hz]
                    go_wp2_with fail
                    go_roundw
                    case rel => exact ⟨q + 1, by omega, by omega, by go_num, HJ⟩
                    case measure => simp [intOf]; omega
                  | true =>
                    cases q2 : (x.b.phase == 1) with
                    | false =>
                      have hz : (if true && false then 1 else 0 : Nat) = 0 := rfl
                      rw [hz]
                      go_wp2_with fail
                      go_roundw
                      case rel => exact ⟨q + 1, by omega, by omega, by go_num, HJ⟩
                      case measure => simp [intOf]; omega
                    | true =>
                      have hz : (if true && true then 1 else 0 : Nat) = 1 := rfl
                      rw [hz]
                      go_wp2_with fail
                      go_roundw
                      case rel => exact ⟨q + 1, by omega, by omega, by go_num, HJ⟩
                      case measure => simp [intOf]; omega
            · have ld := ld_sta HJ.out.on.one
              have d0 := HJ.out.var.b.1.1
              have CB1 := Lib.hid (CB.out x.b.id wr HJ.out.on.st)
              rw [show findB (btsOf r.bats) x.b.id = some x.b from HS.out] at CB1
              go_wp2_with fail
              refine CB1.out.mono ?_
              rintro e w5 ⟨y, rfl, hy, hyP, b5⟩
              have hy' : y.b = x.b := hy
              have J5 := Lib.hid ((HJ.out.below b5).below ((Below.refl w5.heap.size w5).alloc (Nat.le_refl _) (.cells (baC y) 46)))
              have Y5 := Lib.hid (Row.new w5 (baC y) 46)
              clear ld d0 CB1 b5 hyP hy HJ
              go_wp2_with fail
              generalize w5.alloc (.cells (baC y) 46) = W6 at *
              generalize w5.heap.size = g5 at *
              have f1 : ∀ p : Far W6, LdX 29 (.pointer (some ⟨w.heap.size, 0, none⟩)) (farOf W6 p) = .ok (.value (stV r)) (farOf W6 p) := fun p => ld_sta (J5.out.below (far_below W6 p)).on.one
              have g0 : ∀ p : Far W6, (farOf W6 p).cell? ⟨g5, 0, none⟩ = some (.int .i64 x.b.id) := fun p => by rw [← hy']; exact (Y5.out.below (far_below W6 p)).b.1.1
              have g1 := fun p : Far W6 => (J5.out.below (far_below W6 p)).var.b.1.1
              have g2 := fun p : Far W6 => (J5.out.below (far_below W6 p)).var.b.1.2.1
              have g8 := fun p : Far W6 => (J5.out.below (far_below W6 p)).var.b.2.2.2.2
              have hm : x.b.mem.length ≤ 1000000 := Nat.le_trans HQ.out.2.2.2 (by decide)
              have CW1 := Lib.hid (fun p : Far W6 => CW.out x.a x.c x.b.mem (farOf W6 p) (J5.out.below (far_below W6 p)).on.st (J5.out.below (far_below W6 p)).bt.mem hm)
              rw [show weighS (odsOf r.ords) x.b.mem = x.b.wt from HQ.out.1] at CW1
              have hw : (x.b.wt != x.b.wt) = false := by simp
              have hid : (x.b.id != x.b.id) = false := by simp
              refine wp_region_far (by kernel_rfl) (by kernel_rfl) ?_
              repeat (first | go_big_quiet_step ((go_at_call 15; exact calls_far (CW1.out _))) | quiet_step ((go_at_call 15; exact calls_far (CW1.out _))))
              refine wpQuiet_nil ?_
              intro _ hw'
              obtain ⟨q, hw''⟩ := hw'
              subst hw''
              have J7 := Lib.hid (J5.out.below (far_below W6 q)).on
              clear f1 g0 g1 g2 g8 CW1
              go_wp2_with fail
              go_roundw
              case rel => exact ⟨k + 1, by omega, by go_num, J7⟩
              case measure => simp [intOf]; omega
        · have c9 := HI.out.one.st.2.2.2.2.1
          go_wp2_with fail
          go_loopw [97] (fun i wi => ∃ (k : Nat), k ≤ r.ords.length ∧ i = .int .i64 k ∧ Hid (OnI w r wi)) (fun i _ => r.ords.length - (intOf i).toNat)
          case atStart => exact ⟨0, Nat.zero_le _, rfl, HI⟩
          case round =>
            clear HI c9
            obtain ⟨k, hk, rfl, HI⟩ := hrel
            by_cases hlt : k < r.ords.length
            · obtain ⟨b, o, e, hb, _, ld, _⟩ := HI.out.st.ords.ld k hlt
              rw [e]
              clear e
              have hmem : r.ords[k].o ∈ r.st.ords := List.mem_map_of_mem (List.getElem_mem hlt)
              have HS := Lib.hid (findO_self HP.out.ords hmem)
              generalize r.ords[k] = x at *
              have R := Lib.hid (Row.new wr (orC x) 39)
              have J := Lib.hid (HI.out.more (.cells (orC x) 39))
              have ld2 := ld_sta J.out.one
              have d0 := R.out.o.1.1
              clear hmem
              go_wp2_with fail
              generalize wr.alloc (.cells (orC x) 39) = W3 at *
              have CO1 := Lib.hid (CO.out x.o.id W3 J.out.st)
              rw [show findO (odsOf r.ords) x.o.id = some x.o from HS.out] at CO1
              refine CO1.out.mono ?_
              rintro e w5 ⟨y, rfl, hy, _, b5⟩
              have hy' : y.o = x.o := hy
              have J5 := Lib.hid ((J.out.below b5).more (.cells (orC y) 39))
              have R5 := Lib.hid ((R.out.below b5).more (.cells (orC y) 39))
              have Y5 := Lib.hid (Row.new w5 (orC y) 39)
              clear ld ld2 d0 CO1 b5 hy R J HI
              have d0 := R5.out.o.1.1
              have d9 := R5.out.o.2.2.2.2.2
              have y0 : (w5.alloc (.cells (orC y) 39)).cell? ⟨w5.heap.size, 0, none⟩ = some (.string x.o.id) := by rw [← hy']; exact Y5.out.o.1.1
              have y9 : (w5.alloc (.cells (orC y) 39)).cell? ⟨w5.heap.size, 9, none⟩ = some (.int .i64 x.o.batch) := by rw [← hy']; exact Y5.out.o.2.2.2.2.2
              go_wp2_with fail
              go_roundw
              case rel => exact ⟨k + 1, by omega, by go_num, J5⟩
              case measure => simp [intOf]; omega
            · go_wp2_with fail
              go_ret
              exact ⟨rfl, HI.out.low⟩


set_option maxRecDepth 100000 in
set_option maxHeartbeats 1000000 in
theorem stateHeld_lifted (os : Os) (started : os.Started) (H : Type) (enc : TypeId × Value → H) :
    ReturnsInHanded {} Tryz.checked os 4 .any (Rows.stateHeldSpec.pre6 enc Tryz.prog Tryz.f4 Rows.stateHeldRow.domain false) (Rows.stateHeldSpec.post enc Tryz.prog Tryz.f4 false true false false) := by
  refine returnsInHanded_of_change (C := Tryz.checked) own started (by kernel_rfl) Tryz.func4
    (ChangeSpec.witness6 (enc := enc) (C := Tryz.checked) false ⟨#[], #[.agg #[.int .i64 0, .int .i64 0, .int .i64 0, .int .i64 0, .int .i64 0, .slice none 0 0, .int .i64 0, .int .i64 0, .int .i64 0, .slice none 0 0, .slice none 0 0, .slice none 0 0]], []⟩ 8 (by kernel_rfl) (by kernel_rfl) (by kernel_rfl) (by kernel_rfl)) ?_
  intro W base args ds gs before hval0 hW _ _
  have hval : ∀ (j : Nat) t v, Tryz.f4.params[j]? = some t → args[j]? = some v → Value.okWide Tryz.prog W .any base t v := hval0
  have hW' := hW
  obtain ⟨p, q, hA0, hV, rfl, _, _⟩ := hW
  have hA : DataW.TrodAll enc Tryz.prog W 0 (fun _ => true) true Tryz.f4.params.toList args.toList ds p := hA0
  rw [Tryz.params4] at hA hval
  obtain ⟨v0, vs0, d0, ds0, p0, q_0, hargs, rfl, rfl, h0, r0⟩ := trodAll_cons hA
  obtain ⟨rfl, rfl, rfl⟩ := trodAll_nil r0
  obtain rfl : args = #[v0] := by cases args; simp_all
  obtain ⟨rfl, rfl⟩ := trodVars_none hV
  clear hA0 hval0
  simp only [List.append_nil] at hW'
  obtain ⟨st0, rfl, hS0, hw0⟩ := state_of_trod (hval 0 29 v0 rfl rfl) h0
  have hlt0 : ∀ x ∈ p0, x.block < W.heap.size := fun x hx => by simpa using hW'.lt x (by simpa using (by simp [hx]))
  refine (held_walk new_of right_of order_of batch_of weight_of held_of st0 W hS0).mono fun e W' ⟨he, hb⟩ => ?_
  subst he
  have hT : DataW.TrodAll enc Tryz.prog W' 0 (fun b => decide (b < W.heap.size)) true _ _ _ _ := (trodAll_cons_mk (Below.trod laidOut (by kernel_rfl) (of_decide_eq_true (by kernel_rfl)) h0 hb hlt0) trodAll_mk0)
  simp only [List.append_nil] at hT
  exact ⟨_, rfl, _, _, _, [], p0, [], hW', trodAll_mk1 (shut_bool Tryz.underlying4 _), hT, rfl, hb.frame _, fun h => by cases h⟩

theorem stateHeld_holds : Rows.StateHeldSaid :=
  OpenClaim.holds_of_wide 4 Tryz.f4 rfl rfl rfl rfl rfl rfl rfl ⟨rfl, rfl, rfl, rfl, rfl⟩ rfl rfl rfl rfl rfl (by kernel_rfl) Tryz.func4 (by kernel_rfl)
    (of_decide_eq_true (by kernel_rfl)) (by unfold Func.isWrapper; first | (rw [if_pos (by decide +kernel)]; kernel_rfl) | (rw [if_neg (by decide +kernel)]; exact ⟨rfl, rfl⟩))
    (fun os started H enc _ => stateHeld_lifted os started H enc)
#print axioms stateHeld_holds


end Go.Proofs.YtaghbfnikcldiaaGreat
