/- SagaRefuses: the law returns true for any truth and any number: what undoes is tried as often as the limit says, then it is stuck. It has no conditions. -/
import Derived.Test.YtlggakjfgapppaaSgStep
import Derived.Test.YtlggakjfgapppaaSgAlive
import Derived.Test.YtlggakjfgapppaaSgProg
import Derived.Test.YtlggakjfgapppaaSgArgs
namespace Go.Proofs.Ytlggakjfgapppaa
open Go.ChangeShapes Go.WideShapes Go.ChangeAt Go.RowKit

set_option maxRecDepth 100000
attribute [local go_sem ↓] ldSg stSg alSg bxSg eqSg bdSg
attribute [local go_sem] al_sg bx_sg bd_sg bd_sg0 st_sgnew

/-- A saga in a variable, the next one in another. -/
structure TwoS (w : World) (X : Nat) (s : Sg) (Y : Nat) (z : Sg) (W : World) : Prop where
  var : Row W X 25 (sgC s)
  nxt : Row W Y 25 (sgC z)
  low : Below w.heap.size w W
theorem TwoS.below {w W W' : World} {X Y : Nat} {s z : Sg} (h : TwoS w X s Y z W) (b : Below W.heap.size W W') : TwoS w X s Y z W' := ⟨h.var.below b, h.nxt.below b, h.low.trans (b.mono h.low.size)⟩

set_option maxHeartbeats 4000000 in
theorem refuses_walk (HS : StepC) (rel : Bool) (limit : Int) (w : World) : Calls Try.prog 8 #[.bool rel, .int .i64 limit] w (Tell true w) := by
  have CV := Lib.hid (fun W => alive_of HS W)
  have HS := Lib.hid HS
  go_enter Try.func8, Try.ntmps8
  go_wp2_with fail
  refine (CV.out _).mono ?_
  rintro x W1 ⟨rfl, b1⟩
  by_cases hl : 2000 < limit
  · go_wp2_with fail
    go_ret
    exact ⟨rfl, b1⟩
  · have hX : w.heap.size ≤ W1.heap.size := b1.size
    obtain ⟨M, hM, hM1, hM2⟩ : ∃ M : Int, capR limit = M ∧ 1 ≤ M ∧ M ≤ 2000 := ⟨_, rfl, by unfold capR; split <;> omega, by unfold capR; split <;> omega⟩
    have hmax : (if limit < 1 then 1 else limit) = M := hM
    have B0 := Lib.hid (fun cs => b1.alloc b1.size (.cells cs 25))
    have hX : w.heap.size ≤ W1.heap.size := b1.size
    have e10 : (sgC ⟨9, false, 0⟩).setIfInBounds 0 (.int .i64 10) = sgC ⟨10, false, 0⟩ := rfl
    have R0 := Lib.hid (fun s => Row.new W1 (sgC s) 25)
    have c9 : _ = some (Value.int .i64 9) := (R0.out ⟨9, false, 0⟩).cell 0
    have c10 : _ = some (Value.int .i64 10) := (R0.out ⟨10, false, 0⟩).cell 0
    have CA := Lib.hid (fun (p : Int) W => asks_any p W)
    clear b1 CV
    cases rel
    all_goals
      go_wp2_with fail
      refine (CA.out _ _).mono ?_
      rintro x W2 ⟨rfl, b2⟩
    · have R2 := Lib.hid ((R0.out ⟨9, false, 0⟩).below b2)
      have B2 := Lib.hid ((B0.out (sgC ⟨9, false, 0⟩)).trans (b2.mono (B0.out (sgC ⟨9, false, 0⟩)).size))
      clear b2 R0 B0 c9 c10 e10 CA
      obtain ⟨p, hp, hp9⟩ : ∃ p : Int, (9 : Int) = p ∧ (p = 9 ∨ p = 10) := ⟨9, rfl, .inl rfl⟩
      rw [hp] at R2 ⊢
      clear hp
      have HON := Lib.hid (fun k h1 h2 h3 => refuse_on (limit := limit) hp9 (k := k) h1 h2 h3)
      have HLS := Lib.hid (fun k h1 h2 h3 => refuse_last (limit := limit) hp9 (k := k) h1 h2 h3)
      rw [hM] at HON HLS
      obtain ⟨q, hq⟩ : ∃ q, asksN p = q := ⟨_, rfl⟩
      rw [hq] at HON ⊢
      clear hq
      go_wp2_with fail
      generalize W1.heap.size = X at *
      go_loopw [7] (fun s7 wr => ∃ k : Int, s7 = .int .i64 k ∧ 1 ≤ k ∧ k ≤ M ∧ Hid (Row wr X 25 (sgC ⟨p, false, k - 1⟩)) ∧ Hid (Below w.heap.size w wr)) (fun s7 _ => (M - intOf s7).toNat)
      case atStart => exact ⟨1, rfl, by omega, hM1, R2, B2⟩
      case round =>
        clear R2 B2
        obtain ⟨k, rfl, hk1, hk2, R, B⟩ := hrel
        have ld := ld_sg (s := ⟨p, false, k - 1⟩) R.out
        by_cases hlt : k < M
        · have C1 := Lib.hid (HS.out ⟨p, false, k - 1⟩ 2 limit wr ⟨by simp only; omega, by simp only; omega⟩)
          rw [HON.out k hk1 (by omega) hlt] at C1
          unfold StepP at C1
          dsimp only at C1
          go_wp2_with fail
          refine C1.out.mono ?_
          rintro e w2 ⟨rfl, b2⟩
          have RV := Lib.hid ((R.out.below b2).more (.cells (sgC ⟨p, false, k⟩) 25))
          have RN := Lib.hid (Row.new w2 (sgC ⟨p, false, k⟩) 25)
          have B3 := Lib.hid ((B.out.trans (b2.mono B.out.size)).alloc (Nat.le_trans B.out.size b2.size) (.cells (sgC ⟨p, false, k⟩) 25))
          clear ld C1 b2 R B
          have a0 : _ = some (Value.int .i64 p) := RV.out.cell 0
          have d0 : _ = some (Value.int .i64 p) := RN.out.cell 0
          have d2 : _ = some (Value.int .i64 k) := RN.out.cell 2
          have l2 := ld_sg (s := ⟨p, false, k⟩) RN.out
          have st := st_sg (o := ⟨p, false, k - 1⟩) RV.out ⟨p, false, k⟩
          go_wp2_with fail
          go_roundw
          case rel => exact ⟨k + 1, by go_num, by omega, by omega, Lib.hid (by rw [Int.add_sub_cancel]; exact sg_set (o := ⟨p, false, k - 1⟩) RV.out ⟨p, false, k⟩), Lib.hid (Below.row B3.out hX _)⟩
          case measure => simp [intOf]; omega
        · obtain rfl : k = M := by omega
          have C1 := Lib.hid (HS.out ⟨p, false, k - 1⟩ 2 limit wr ⟨by simp only; omega, by simp only; omega⟩)
          rw [HLS.out k hk1 (by omega) rfl] at C1
          unfold StepP at C1
          dsimp only at C1
          go_wp2_with fail
          refine C1.out.mono ?_
          rintro e w2 ⟨rfl, b2⟩
          have RN := Lib.hid (Row.new w2 (sgC ⟨12, false, k⟩) 25)
          have B3 := Lib.hid ((B.out.trans (b2.mono B.out.size)).alloc (Nat.le_trans B.out.size b2.size) (.cells (sgC ⟨12, false, k⟩) 25))
          have d0 : _ = some (Value.int .i64 12) := RN.out.cell 0
          have d2 : _ = some (Value.int .i64 k) := RN.out.cell 2
          clear ld C1 b2 R B
          go_wp2_with fail
          go_ret
          exact ⟨by simp, B3.out⟩
    · have R2 := Lib.hid ((R0.out ⟨10, false, 0⟩).below b2)
      have B2 := Lib.hid ((B0.out (sgC ⟨10, false, 0⟩)).trans (b2.mono (B0.out (sgC ⟨10, false, 0⟩)).size))
      clear b2 R0 B0 c9 c10 e10 CA
      obtain ⟨p, hp, hp9⟩ : ∃ p : Int, (10 : Int) = p ∧ (p = 9 ∨ p = 10) := ⟨10, rfl, .inr rfl⟩
      rw [hp] at R2 ⊢
      clear hp
      have HON := Lib.hid (fun k h1 h2 h3 => refuse_on (limit := limit) hp9 (k := k) h1 h2 h3)
      have HLS := Lib.hid (fun k h1 h2 h3 => refuse_last (limit := limit) hp9 (k := k) h1 h2 h3)
      rw [hM] at HON HLS
      obtain ⟨q, hq⟩ : ∃ q, asksN p = q := ⟨_, rfl⟩
      rw [hq] at HON ⊢
      clear hq
      go_wp2_with fail
      generalize W1.heap.size = X at *
      go_loopw [7] (fun s7 wr => ∃ k : Int, s7 = .int .i64 k ∧ 1 ≤ k ∧ k ≤ M ∧ Hid (Row wr X 25 (sgC ⟨p, false, k - 1⟩)) ∧ Hid (Below w.heap.size w wr)) (fun s7 _ => (M - intOf s7).toNat)
      case atStart => exact ⟨1, rfl, by omega, hM1, R2, B2⟩
      case round =>
        clear R2 B2
        obtain ⟨k, rfl, hk1, hk2, R, B⟩ := hrel
        have ld := ld_sg (s := ⟨p, false, k - 1⟩) R.out
        by_cases hlt : k < M
        · have C1 := Lib.hid (HS.out ⟨p, false, k - 1⟩ 2 limit wr ⟨by simp only; omega, by simp only; omega⟩)
          rw [HON.out k hk1 (by omega) hlt] at C1
          unfold StepP at C1
          dsimp only at C1
          go_wp2_with fail
          refine C1.out.mono ?_
          rintro e w2 ⟨rfl, b2⟩
          have RV := Lib.hid ((R.out.below b2).more (.cells (sgC ⟨p, false, k⟩) 25))
          have RN := Lib.hid (Row.new w2 (sgC ⟨p, false, k⟩) 25)
          have B3 := Lib.hid ((B.out.trans (b2.mono B.out.size)).alloc (Nat.le_trans B.out.size b2.size) (.cells (sgC ⟨p, false, k⟩) 25))
          clear ld C1 b2 R B
          have a0 : _ = some (Value.int .i64 p) := RV.out.cell 0
          have d0 : _ = some (Value.int .i64 p) := RN.out.cell 0
          have d2 : _ = some (Value.int .i64 k) := RN.out.cell 2
          have l2 := ld_sg (s := ⟨p, false, k⟩) RN.out
          have st := st_sg (o := ⟨p, false, k - 1⟩) RV.out ⟨p, false, k⟩
          go_wp2_with fail
          go_roundw
          case rel => exact ⟨k + 1, by go_num, by omega, by omega, Lib.hid (by rw [Int.add_sub_cancel]; exact sg_set (o := ⟨p, false, k - 1⟩) RV.out ⟨p, false, k⟩), Lib.hid (Below.row B3.out hX _)⟩
          case measure => simp [intOf]; omega
        · obtain rfl : k = M := by omega
          have C1 := Lib.hid (HS.out ⟨p, false, k - 1⟩ 2 limit wr ⟨by simp only; omega, by simp only; omega⟩)
          rw [HLS.out k hk1 (by omega) rfl] at C1
          unfold StepP at C1
          dsimp only at C1
          go_wp2_with fail
          refine C1.out.mono ?_
          rintro e w2 ⟨rfl, b2⟩
          have RN := Lib.hid (Row.new w2 (sgC ⟨12, false, k⟩) 25)
          have B3 := Lib.hid ((B.out.trans (b2.mono B.out.size)).alloc (Nat.le_trans B.out.size b2.size) (.cells (sgC ⟨12, false, k⟩) 25))
          have d0 : _ = some (Value.int .i64 12) := RN.out.cell 0
          have d2 : _ = some (Value.int .i64 k) := RN.out.cell 2
          clear ld C1 b2 R B
          go_wp2_with fail
          go_ret
          exact ⟨by simp, B3.out⟩



set_option maxRecDepth 100000 in
theorem sagaRefuses_lifted (os : Os) (started : os.Started) (H : Type) (enc : TypeId × Value → H) :
    ReturnsInHanded {} Try.checked os 8 .any (Rows.sagaRefusesSpec.pre6 enc Try.prog Try.f8 Rows.sagaRefusesRow.domain false) (Rows.sagaRefusesSpec.post enc Try.prog Try.f8 false true false false) := by
  refine returnsInHanded_of_change (C := Try.checked) own started (by kernel_rfl) Try.func8
    (ChangeSpec.witness6 (enc := enc) (C := Try.checked) false ⟨#[], #[.bool false, .int .i64 0], []⟩ 8 (by kernel_rfl) (by kernel_rfl) (by kernel_rfl) (by kernel_rfl)) ?_
  intro W base args ds gs before hval0 hW _ _
  have hval : ∀ (j : Nat) t v, Try.f8.params[j]? = some t → args[j]? = some v → Value.okWide Try.prog W .any base t v := hval0
  have hW' := hW
  obtain ⟨p, q, hA0, hV, rfl, _, _⟩ := hW
  have hA : DataW.TrodAll enc Try.prog W 0 (fun _ => true) true Try.f8.params.toList args.toList ds p := hA0
  rw [Try.params8] at hA hval
  obtain ⟨v0, vs0, d0, ds0, p0, q_0, hargs, rfl, rfl, h0, r0⟩ := trodAll_cons hA
  obtain ⟨v1, vs1, d1, ds1, p1, q_1, rfl, rfl, rfl, h1, r1⟩ := trodAll_cons r0
  obtain ⟨rfl, rfl, rfl⟩ := trodAll_nil r1
  obtain rfl : args = #[v0, v1] := by cases args; simp_all
  obtain ⟨rfl, rfl⟩ := trodVars_none hV
  clear hA0 hval0
  simp only [List.append_nil] at hW'
  obtain ⟨a0, rfl, rfl, rfl⟩ := open_bool Try.underlying4 (hval 0 4 v0 rfl rfl) h0
  obtain ⟨a1, rfl, rfl, rfl, w1⟩ := open_int Try.underlying3 (hval 1 3 v1 rfl rfl) h1
  refine (refuses_walk step_any a0 a1 W).mono fun e W' ⟨he, hb⟩ => ?_
  subst he
  exact ⟨_, rfl, _, _, _, [], [], [], hW', trodAll_mk1 (shut_bool Try.underlying4 _), (trodAll_cons_mk (shut_bool Try.underlying4 a0) (trodAll_cons_mk (shut_int Try.underlying3 w1) trodAll_mk0)), rfl, hb.frame _, fun h => by cases h⟩

theorem sagaRefuses_holds : Rows.SagaRefusesSaid :=
  OpenClaim.holds_of_wide 8 Try.f8 rfl rfl rfl rfl rfl rfl rfl ⟨rfl, rfl, rfl, rfl, rfl⟩ rfl rfl rfl rfl rfl (by kernel_rfl) Try.func8 (by kernel_rfl)
    (of_decide_eq_true (by kernel_rfl)) (by unfold Func.isWrapper; first | (rw [if_pos (by decide +kernel)]; kernel_rfl) | (rw [if_neg (by decide +kernel)]; exact ⟨rfl, rfl⟩))
    (fun os started H enc _ => sagaRefuses_lifted os started H enc)
#print axioms sagaRefuses_holds


end Go.Proofs.Ytlggakjfgapppaa
