/- SagaUndoes: the law returns true for any saga, any events and any number: what is over stays so, what is undone is undone further. It has no conditions. -/
import Derived.Test.YtlggakjfgapppaaSgStep
import Derived.Test.YtlggakjfgapppaaSgAlive
import Derived.Test.YtlggakjfgapppaaSgProg
import Derived.Test.YtlggakjfgapppaaSgArgs
namespace Go.Proofs.Ytlggakjfgapppaa
open Go.ChangeShapes Go.WideShapes Go.ChangeAt Go.RowKit

set_option maxRecDepth 100000
attribute [local go_sem ↓] ldSg stSg alSg bxSg eqSg bdSg
attribute [local go_sem] al_sg bx_sg bd_sg bd_sg0 st_sgnew

/-- A saga in a variable, the next one in another. -/
structure TwoS (w : World) (X : Nat) (s : Sg) (Y : Nat) (z : Sg) (W : World) : Prop where
  var : Row W X 25 (sgC s)
  nxt : Row W Y 25 (sgC z)
  low : Below w.heap.size w W
theorem TwoS.below {w W W' : World} {X Y : Nat} {s z : Sg} (h : TwoS w X s Y z W) (b : Below W.heap.size W W') : TwoS w X s Y z W' := ⟨h.var.below b, h.nxt.below b, h.low.trans (b.mono h.low.size)⟩

set_option maxHeartbeats 4000000 in
theorem undoes_walk (HS : StepC) (s0 : Sg) (a : Option Addr) (cap : Nat) (l : List Int) (limit : Int) (w : World) (h : IntsP w a cap l) : Calls Try.prog 7 #[sgV s0, .slice a l.length cap, .int .i64 limit] w (Tell true w) := by
  have CV := Lib.hid (fun W => alive_of HS W)
  have HS := Lib.hid HS
  have H := Lib.hid h
  have hca := h.cap
  have hlm := h.len
  have R0 := Lib.hid (Row.new w (sgC s0) 25)
  have B0 := Lib.hid ((Below.refl w.heap.size w).alloc (Nat.le_refl _) (.cells (sgC s0) 25))
  clear h
  go_enter Try.func7, Try.ntmps7
  go_wp2_with fail
  generalize w.alloc (.cells (sgC s0) 25) = W0 at *
  refine (CV.out _).mono ?_
  rintro x W1 ⟨rfl, b1⟩
  have R1 := Lib.hid (R0.out.below b1)
  have B1 := Lib.hid (B0.out.trans (b1.mono B0.out.size))
  obtain ⟨⟨c0, _, c2⟩, _⟩ := R1.out.s
  clear b1 R0 B0 CV
  by_cases h1 : s0.phase < 8
  · go_wp2_with fail
    go_ret
    exact ⟨rfl, B1.out⟩
  · by_cases h2 : 12 < s0.phase
    · go_wp2_with fail
      go_ret
      exact ⟨rfl, B1.out⟩
    · by_cases h3 : s0.ref < 0
      · go_wp2_with fail
        go_ret
        exact ⟨rfl, B1.out⟩
      · by_cases h4 : 1000 < s0.ref
        · go_wp2_with fail
          go_ret
          exact ⟨rfl, B1.out⟩
        · by_cases h5 : 500 < l.length
          · have h6 : (500 : Int) < (l.length : Int) := by omega
            go_wp2_with fail
            go_ret
            exact ⟨rfl, B1.out⟩
          · have h6 : ¬ (500 : Int) < (l.length : Int) := by omega
            have ld := ld_sg R1.out
            have hover : overB s0.phase = ((s0.phase == 8) || ((s0.phase == 11) || (s0.phase == 12))) := rfl
            have K1 : Hid (TwoS w w.heap.size s0 W1.heap.size s0 (W1.alloc (.cells (sgC s0) 25))) := Lib.hid ⟨R1.out.more _, Row.new _ _ _, B1.out.alloc B1.out.size _⟩
            have hY : w.heap.size < W1.heap.size := R1.out.lt
            obtain ⟨ov, hov⟩ : ∃ b, overB s0.phase = b := ⟨_, rfl⟩
            rw [hov] at hover
            have HOV := Lib.hid hov
            have hin : Hid (8 ≤ s0.phase ∧ s0.phase ≤ 12) := Lib.hid (by omega)
            have hrf : Hid (0 ≤ s0.ref ∧ s0.ref ≤ 1000000) := Lib.hid (by omega)
            clear hov R1
            cases v8 : (s0.phase == 8) <;> cases v11 : (s0.phase == 11) <;> cases v12 : (s0.phase == 12)
            all_goals
              rw [v8, v11, v12] at hover
              go_wp2_with fail
              clear ld c0 c2 v8 v11 v12 h1 h2 h3 h4 h5 h6
              generalize hW : W1.alloc (.cells (sgC s0) 25) = W2 at *
              clear hW
              generalize W1.heap.size = Y at *
              simp only [Bool.or_false, Bool.or_true] at hover
              subst hover
              go_loopw [55] (fun s55 wr => ∃ (i : Nat) (s : Sg), i ≤ l.length ∧ s55 = .int .i64 i ∧ Hid (8 ≤ s.phase ∧ s.phase ≤ 12) ∧ Hid (0 ≤ s.ref ∧ s.ref ≤ 1000000) ∧ Hid (overB s0.phase = true → s = s0) ∧ Hid (s0.phase ≤ s.phase) ∧ Hid (TwoS w w.heap.size s Y s0 wr)) (fun s55 _ => l.length - (intOf s55).toNat)
              case atStart => exact ⟨0, s0, Nat.zero_le _, rfl, hin, hrf, Lib.hid (fun _ => rfl), Lib.hid (Int.le_refl _), K1⟩
              case round =>
                clear K1
                obtain ⟨i, s, hi, rfl, HP, HR, HV, HL, K⟩ := hrel
                by_cases hlt : i < l.length
                · obtain ⟨b, o, rfl, hb, cx⟩ := (H.out.below K.out.low).at i hlt
                  have ld := ld_sg K.out.var
                  generalize l[i] = x at *
                  have C1 := Lib.hid (HS.out s x limit wr HR.out)
                  have HE := Lib.hid (fun h => step_err (s := s) (event := x) (limit := limit) h)
                  have HO := Lib.hid (fun h => step_ok (s := s) (event := x) (limit := limit) h)
                  have HRR := Lib.hid (step_ref (event := x) (limit := limit) HR.out)
                  have HVV := Lib.hid (fun (h : overB s.phase = true) => over_same h x limit)
                  unfold StepP at C1
                  generalize (stepS s x limit).1 = z at *
                  generalize (stepS s x limit).2.1 = n at *
                  generalize (stepS s x limit).2.2 = m at *
                  have HZ : Hid ((8 ≤ z.phase ∧ z.phase ≤ 12) ∧ s.phase ≤ z.phase) := Lib.hid (by
                    have := HP.out
                    by_cases hm : m = 0
                    · obtain ⟨q1, _, _, _, q5⟩ := HO.out hm
                      have := q5 this.1
                      omega
                    · obtain ⟨q1, _⟩ := HE.out hm
                      subst q1
                      omega)
                  have HZV : Hid (overB s0.phase = true → z = s0) := Lib.hid (fun h => by
                    have e := HV.out h
                    subst e
                    exact HVV.out h)
                  go_wp2_with fail
                  refine C1.out.mono ?_
                  rintro e w2 ⟨rfl, b2⟩
                  have K2 : Hid (TwoS w w.heap.size s Y s0 (w2.alloc (.cells (sgC z) 25))) := Lib.hid ⟨(K.out.var.below b2).more _, (K.out.nxt.below b2).more _, (K.out.low.trans (b2.mono K.out.low.size)).alloc (Nat.le_trans K.out.low.size b2.size) _⟩
                  have N2 := Lib.hid (Row.new w2 (sgC z) 25)
                  clear ld cx b2 C1 K hb HE HO HVV
                  have l1 := ld_sg K2.out.nxt
                  have l2 := ld_sg N2.out
                  have c0 := K2.out.var.s.1.1
                  have d0 := N2.out.s.1.1
                  have st := st_sg K2.out.var z
                  have hz8 : ¬ z.phase < 8 := by have := HZ.out; omega
                  have hzs : ¬ z.phase < s.phase := by have := HZ.out; omega
                  have ne : overB s0.phase = true → ∀ W a b, EqX .neq 25 a b (sgV z) (sgV s0) W = .ok (.value (.bool false)) W := fun h W a b => by
                    have e := HZV.out h
                    subst e
                    have := ne_sg W z z a b
                    rwa [sgEq_self] at this
                  (try have ne := ne HOV.out)
                  go_wp2_with fail
                  go_roundw
                  case rel => exact ⟨i + 1, z, hlt, by go_num, Lib.hid HZ.out.1, HRR, HZV, Lib.hid (Int.le_trans HL.out HZ.out.2), Lib.hid ⟨sg_set K2.out.var z, (setRow_other _ _ _ _ (by omega)).trans K2.out.nxt, Below.row K2.out.low (Nat.le_refl _) _⟩⟩
                  case measure => simp [intOf]; omega
                · have c0 := K.out.var.s.1.1
                  have h9 : overB s0.phase = false → 9 ≤ s.phase := fun h => by
                    have h1 := hin.out
                    have h2 := HL.out
                    simp only [overB, Bool.or_eq_false_iff, beq_eq_false_iff_ne] at h
                    omega
                  (try have h9 := h9 HOV.out)
                  go_wp2_with fail
                  go_ret
                  exact ⟨by simp, K.out.low⟩



set_option maxRecDepth 100000 in
theorem sagaUndoes_lifted (os : Os) (started : os.Started) (H : Type) (enc : TypeId × Value → H) :
    ReturnsInHanded {} Try.checked os 7 .any (Rows.sagaUndoesSpec.pre6 enc Try.prog Try.f7 Rows.sagaUndoesRow.domain false) (Rows.sagaUndoesSpec.post enc Try.prog Try.f7 false true false false) := by
  refine returnsInHanded_of_change (C := Try.checked) own started (by kernel_rfl) Try.func7
    (ChangeSpec.witness6 (enc := enc) (C := Try.checked) false ⟨#[], #[.agg #[.int .i64 0, .bool false, .int .i64 0], .slice none 0 0, .int .i64 0], []⟩ 8 (by kernel_rfl) (by kernel_rfl) (by kernel_rfl) (by kernel_rfl)) ?_
  intro W base args ds gs before hval0 hW _ _
  have hval : ∀ (j : Nat) t v, Try.f7.params[j]? = some t → args[j]? = some v → Value.okWide Try.prog W .any base t v := hval0
  have hW' := hW
  obtain ⟨p, q, hA0, hV, rfl, _, _⟩ := hW
  have hA : DataW.TrodAll enc Try.prog W 0 (fun _ => true) true Try.f7.params.toList args.toList ds p := hA0
  rw [Try.params7] at hA hval
  obtain ⟨v0, vs0, d0, ds0, p0, q_0, hargs, rfl, rfl, h0, r0⟩ := trodAll_cons hA
  obtain ⟨v1, vs1, d1, ds1, p1, q_1, rfl, rfl, rfl, h1, r1⟩ := trodAll_cons r0
  obtain ⟨v2, vs2, d2, ds2, p2, q_2, rfl, rfl, rfl, h2, r2⟩ := trodAll_cons r1
  obtain ⟨rfl, rfl, rfl⟩ := trodAll_nil r2
  obtain rfl : args = #[v0, v1, v2] := by cases args; simp_all
  obtain ⟨rfl, rfl⟩ := trodVars_none hV
  clear hA0 hval0
  simp only [List.append_nil] at hW'
  obtain ⟨s0, rfl⟩ := saga_of_trod (hval 0 25 v0 rfl rfl) h0
  have hlt0 : ∀ x ∈ p0, x.block < W.heap.size := fun x hx => by simpa using hW'.lt x (by simpa using (by simp [hx]))
  obtain ⟨q1, cap1, l1, rfl, hS1, hm1⟩ := ints_of_trod (hval 1 33 v1 rfl rfl) h1
  have hlt1 : ∀ x ∈ p1, x.block < W.heap.size := fun x hx => by simpa using hW'.lt x (by simpa using (by simp [hx]))
  obtain ⟨a2, rfl, rfl, rfl, w2⟩ := open_int Try.underlying3 (hval 2 3 v2 rfl rfl) h2
  refine (undoes_walk step_any s0 q1 cap1 l1 a2 W hS1).mono fun e W' ⟨he, hb⟩ => ?_
  subst he
  have hT : DataW.TrodAll enc Try.prog W' 0 (fun b => decide (b < W.heap.size)) true _ _ _ _ := (trodAll_cons_mk (Below.trod laidOut (by kernel_rfl) (of_decide_eq_true (by kernel_rfl)) h0 hb hlt0) (trodAll_cons_mk (Below.trod laidOut (by kernel_rfl) (of_decide_eq_true (by kernel_rfl)) h1 hb hlt1) (trodAll_cons_mk (shut_int Try.underlying3 w2) trodAll_mk0)))
  simp only [List.append_nil] at hT
  exact ⟨_, rfl, _, _, _, [], p0 ++ (p1), [], hW', trodAll_mk1 (shut_bool Try.underlying4 _), hT, rfl, hb.frame _, fun h => by cases h⟩

theorem sagaUndoes_holds : Rows.SagaUndoesSaid :=
  OpenClaim.holds_of_wide 7 Try.f7 rfl rfl rfl rfl rfl rfl rfl ⟨rfl, rfl, rfl, rfl, rfl⟩ rfl rfl rfl rfl rfl (by kernel_rfl) Try.func7 (by kernel_rfl)
    (of_decide_eq_true (by kernel_rfl)) (by unfold Func.isWrapper; first | (rw [if_pos (by decide +kernel)]; kernel_rfl) | (rw [if_neg (by decide +kernel)]; exact ⟨rfl, rfl⟩))
    (fun os started H enc _ => sagaUndoes_lifted os started H enc)
#print axioms sagaUndoes_holds


end Go.Proofs.Ytlggakjfgapppaa
