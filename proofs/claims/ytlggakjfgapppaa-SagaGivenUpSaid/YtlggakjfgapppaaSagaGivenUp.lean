/- SagaGivenUp: the law returns true for any events and any number: what was given up in time doesn't leave the house. It has no conditions. -/
import Derived.Test.YtlggakjfgapppaaSgStep
import Derived.Test.YtlggakjfgapppaaSgAlive
import Derived.Test.YtlggakjfgapppaaSgProg
import Derived.Test.YtlggakjfgapppaaSgArgs
namespace Go.Proofs.Ytlggakjfgapppaa
open Go.ChangeShapes Go.WideShapes Go.ChangeAt Go.RowKit

set_option maxRecDepth 100000
attribute [local go_sem ↓] ldSg stSg alSg bxSg eqSg bdSg
attribute [local go_sem] al_sg bx_sg bd_sg bd_sg0 st_sgnew

/-- A saga in a variable, the next one in another. -/
structure TwoS (w : World) (X : Nat) (s : Sg) (Y : Nat) (z : Sg) (W : World) : Prop where
  var : Row W X 25 (sgC s)
  nxt : Row W Y 25 (sgC z)
  low : Below w.heap.size w W
theorem TwoS.below {w W W' : World} {X Y : Nat} {s z : Sg} (h : TwoS w X s Y z W) (b : Below W.heap.size W W') : TwoS w X s Y z W' := ⟨h.var.below b, h.nxt.below b, h.low.trans (b.mono h.low.size)⟩

set_option maxHeartbeats 4000000 in
theorem givenUp_walk (HS : StepC) (a : Option Addr) (cap : Nat) (l : List Int) (limit : Int) (w : World) (h : IntsP w a cap l) : Calls Try.prog 5 #[.slice a l.length cap, .int .i64 limit] w (Tell true w) := by
  have H := Lib.hid h
  have hca := h.cap
  have hlm := h.len
  have CV := Lib.hid (fun W => alive_of HS W)
  have HS := Lib.hid HS
  clear h
  go_enter Try.func5, Try.ntmps5
  go_wp2_with fail
  refine (CV.out _).mono ?_
  rintro x W1 ⟨rfl, b1⟩
  by_cases hl : 1000 < l.length
  · have hl1 : (1000 : Int) < (l.length : Int) := by omega
    go_wp2_with fail
    go_ret
    exact ⟨rfl, b1⟩
  · have R0 := Lib.hid (Row.new W1 (sgC ⟨1, false, 0⟩) 25)
    have B0 := Lib.hid (b1.alloc b1.size (.cells (sgC ⟨1, false, 0⟩) 25))
    have hX : w.heap.size ≤ W1.heap.size := b1.size
    clear b1 CV
    go_wp2_with fail
    generalize W1.alloc (.cells (sgC ⟨1, false, 0⟩) 25) = W2 at *
    generalize W1.heap.size = X at *
    go_loopw [6, 20] (fun s6 s20 wr => ∃ (i : Nat) (g : Bool) (s : Sg), i ≤ l.length ∧ s20 = .int .i64 i ∧ s6 = .bool g ∧ Hid (1 ≤ s.phase ∧ s.phase ≤ 12) ∧ Hid (g = true → upB s) ∧ Hid (0 ≤ s.ref ∧ s.ref ≤ 1000000) ∧ Hid (Row wr X 25 (sgC s)) ∧ Hid (Below w.heap.size w wr)) (fun _ s20 _ => l.length - (intOf s20).toNat)
    case atStart => exact ⟨0, false, ⟨1, false, 0⟩, Nat.zero_le _, rfl, rfl, Lib.hid (by decide), Lib.hid (fun h => by cases h), Lib.hid (by decide), R0, B0⟩
    case round =>
      clear R0 B0
      obtain ⟨i, g, s, hi, rfl, rfl, HP, HU, HR, RX, hbw⟩ := hrel
      by_cases hlt : i < l.length
      · obtain ⟨b, o, rfl, hb, cx⟩ := (H.out.below hbw.out).at i hlt
        have ld := ld_sg RX.out
        generalize l[i] = x at *
        have C1 := Lib.hid (HS.out s x limit wr HR.out)
        have HE := Lib.hid (fun h => step_err (s := s) (event := x) (limit := limit) h)
        have HO := Lib.hid (fun h => step_ok (s := s) (event := x) (limit := limit) h)
        have HRR := Lib.hid (step_ref (event := x) (limit := limit) HR.out)
        unfold StepP at C1
        generalize (stepS s x limit).1 = z at *
        generalize (stepS s x limit).2.1 = n at *
        generalize (stepS s x limit).2.2 = m at *
        go_wp2_with fail
        refine C1.out.mono ?_
        rintro e w2 ⟨rfl, b2⟩
        have K : Hid (TwoS w X s w2.heap.size z (w2.alloc (.cells (sgC z) 25))) := Lib.hid ⟨(RX.out.below b2).more _, Row.new _ _ _, (hbw.out.trans (b2.mono hbw.out.size)).alloc (Nat.le_trans hbw.out.size b2.size) _⟩
        clear ld cx b2 C1 RX hbw hb
        cases hm : (m != 0) with
        | true =>
          have hm2 : m ≠ 0 := by simpa using hm
          obtain ⟨e1, e2⟩ := HE.out hm2
          subst e1 e2
          have l1 := ld_sg K.out.var
          have l2 := ld_sg K.out.nxt
          have ne : ∀ W a b, EqX .neq 25 a b (sgV z) (sgV z) W = .ok (.value (.bool false)) W := fun W a b => by
            have := ne_sg W z z a b
            rwa [sgEq_self] at this
          go_wp2_with fail
          go_roundw
          case rel => exact ⟨i + 1, g, z, hlt, by go_num, rfl, HP, HU, HR, Lib.hid K.out.var, Lib.hid K.out.low⟩
          case measure => simp [intOf]; omega
        | false =>
          have hm2 : m = 0 := by simpa using hm
          obtain ⟨q1, q2, q3, q4, _⟩ := HO.out hm2
          have CL := Lib.hid (fun W => left_any z W)
          have CA := Lib.hid (fun W => asks_any z.phase W)
          have HP2 := Lib.hid q1
          subst hm2
          cases hx : (x == 3) with
          | true =>
            have hx3 : x = 3 := by simpa using hx
            have hxn : (x != 3) = false := by simp [hx3]
            have hup : upB z := q2 (.inr hx3)
            have HU2 := Lib.hid hup
            rw [up_left hup] at CL
            clear q2 q4 hup
            have q5 : n = 0 ∨ (n ≠ 0 ∧ asksN z.phase = n) := by
              rcases q3 with h | h
              · exact .inl h
              · by_cases h0 : n = 0
                · exact .inl h0
                · exact .inr ⟨h0, h.symm⟩
            clear q3
            have c0 := K.out.nxt.s.1.1
            have l2 := ld_sg K.out.nxt
            have st := st_sg K.out.var z
            rcases q5 with rfl | ⟨hn0, hna⟩
            · cases g
              all_goals
                go_wp2_with fail
                refine (CL.out _).mono ?_
                rintro e w3 ⟨rfl, b3⟩
                replace K := Lib.hid (K.out.below b3)
                replace c0 := K.out.nxt.s.1.1
                replace l2 := ld_sg K.out.nxt
                replace st := st_sg K.out.var z
                go_wp2_with fail
                go_roundw
                case rel => exact ⟨i + 1, true, z, hlt, by go_num, by simp, HP2, Lib.hid (fun _ => HU2.out), HRR, Lib.hid (sg_set K.out.var z), Lib.hid (Below.row K.out.low hX _)⟩
                case measure => simp [intOf]; omega
            · have hnb : (n != 0) = true := by simpa using hn0
              rw [hna] at CA
              cases g
              all_goals
                go_wp2_with fail
                refine (CL.out _).mono ?_
                rintro e w3 ⟨rfl, b3⟩
                replace K := Lib.hid (K.out.below b3)
                replace c0 := K.out.nxt.s.1.1
                replace l2 := ld_sg K.out.nxt
                replace st := st_sg K.out.var z
                go_wp2_with fail
                refine (CA.out _).mono ?_
                rintro e w4 ⟨rfl, b4⟩
                replace K := Lib.hid (K.out.below b4)
                replace c0 := K.out.nxt.s.1.1
                replace l2 := ld_sg K.out.nxt
                replace st := st_sg K.out.var z
                go_wp2_with fail
                go_roundw
                case rel => exact ⟨i + 1, true, z, hlt, by go_num, by simp, HP2, Lib.hid (fun _ => HU2.out), HRR, Lib.hid (sg_set K.out.var z), Lib.hid (Below.row K.out.low hX _)⟩
                case measure => simp [intOf]; omega
          | false =>
            have hx3 : x ≠ 3 := by simpa using hx
            have hxn : (x != 3) = true := by simp [hx3]
            have hna : asksN z.phase = n := (q4 hx3).symm
            have HU2 := Lib.hid (fun h => q2 (.inl h))
            rw [hna] at CA
            clear q2 q3 q4 hna
            have c0 := K.out.nxt.s.1.1
            have l2 := ld_sg K.out.nxt
            have st := st_sg K.out.var z
            cases hn0 : (n != 0) with
            | false =>
              cases g with
              | false =>
                go_wp2_with fail
                refine (CA.out _).mono ?_
                rintro e w4 ⟨rfl, b4⟩
                replace K := Lib.hid (K.out.below b4)
                replace c0 := K.out.nxt.s.1.1
                replace l2 := ld_sg K.out.nxt
                replace st := st_sg K.out.var z
                go_wp2_with fail
                go_roundw
                case rel => exact ⟨i + 1, false, z, hlt, by go_num, by simp, HP2, Lib.hid (fun h => by cases h), HRR, Lib.hid (sg_set K.out.var z), Lib.hid (Below.row K.out.low hX _)⟩
                case measure => simp [intOf]; omega
              | true =>
                have HUZ := Lib.hid (HU2.out (HU.out rfl))
                rw [up_left HUZ.out] at CL
                go_wp2_with fail
                refine (CL.out _).mono ?_
                rintro e w3 ⟨rfl, b3⟩
                replace K := Lib.hid (K.out.below b3)
                replace c0 := K.out.nxt.s.1.1
                replace l2 := ld_sg K.out.nxt
                replace st := st_sg K.out.var z
                go_wp2_with fail
                refine (CA.out _).mono ?_
                rintro e w4 ⟨rfl, b4⟩
                replace K := Lib.hid (K.out.below b4)
                replace c0 := K.out.nxt.s.1.1
                replace l2 := ld_sg K.out.nxt
                replace st := st_sg K.out.var z
                go_wp2_with fail
                go_roundw
                case rel => exact ⟨i + 1, true, z, hlt, by go_num, by simp, HP2, Lib.hid (fun _ => HUZ.out), HRR, Lib.hid (sg_set K.out.var z), Lib.hid (Below.row K.out.low hX _)⟩
                case measure => simp [intOf]; omega
            | true =>
              cases g with
              | false =>
                go_wp2_with fail
                refine (CA.out _).mono ?_
                rintro e w4 ⟨rfl, b4⟩
                replace K := Lib.hid (K.out.below b4)
                replace c0 := K.out.nxt.s.1.1
                replace l2 := ld_sg K.out.nxt
                replace st := st_sg K.out.var z
                go_wp2_with fail
                refine (CA.out _).mono ?_
                rintro e w5 ⟨rfl, b5⟩
                replace K := Lib.hid (K.out.below b5)
                replace c0 := K.out.nxt.s.1.1
                replace l2 := ld_sg K.out.nxt
                replace st := st_sg K.out.var z
                go_wp2_with fail
                go_roundw
                case rel => exact ⟨i + 1, false, z, hlt, by go_num, by simp, HP2, Lib.hid (fun h => by cases h), HRR, Lib.hid (sg_set K.out.var z), Lib.hid (Below.row K.out.low hX _)⟩
                case measure => simp [intOf]; omega
              | true =>
                have HUZ := Lib.hid (HU2.out (HU.out rfl))
                rw [up_left HUZ.out] at CL
                go_wp2_with fail
                refine (CL.out _).mono ?_
                rintro e w3 ⟨rfl, b3⟩
                replace K := Lib.hid (K.out.below b3)
                replace c0 := K.out.nxt.s.1.1
                replace l2 := ld_sg K.out.nxt
                replace st := st_sg K.out.var z
                go_wp2_with fail
                refine (CA.out _).mono ?_
                rintro e w4 ⟨rfl, b4⟩
                replace K := Lib.hid (K.out.below b4)
                replace c0 := K.out.nxt.s.1.1
                replace l2 := ld_sg K.out.nxt
                replace st := st_sg K.out.var z
                go_wp2_with fail
                refine (CA.out _).mono ?_
                rintro e w5 ⟨rfl, b5⟩
                replace K := Lib.hid (K.out.below b5)
                replace c0 := K.out.nxt.s.1.1
                replace l2 := ld_sg K.out.nxt
                replace st := st_sg K.out.var z
                go_wp2_with fail
                go_roundw
                case rel => exact ⟨i + 1, true, z, hlt, by go_num, by simp, HP2, Lib.hid (fun _ => HUZ.out), HRR, Lib.hid (sg_set K.out.var z), Lib.hid (Below.row K.out.low hX _)⟩
                case measure => simp [intOf]; omega
      · obtain ⟨⟨c0, _, _⟩, _⟩ := RX.out.s
        obtain ⟨p1, p2⟩ := HP.out
        go_wp2_with fail
        go_ret
        exact ⟨by simp, hbw.out⟩



set_option maxRecDepth 100000 in
theorem sagaGivenUp_lifted (os : Os) (started : os.Started) (H : Type) (enc : TypeId × Value → H) :
    ReturnsInHanded {} Try.checked os 5 .any (Rows.sagaGivenUpSpec.pre6 enc Try.prog Try.f5 Rows.sagaGivenUpRow.domain false) (Rows.sagaGivenUpSpec.post enc Try.prog Try.f5 false true false false) := by
  refine returnsInHanded_of_change (C := Try.checked) own started (by kernel_rfl) Try.func5
    (ChangeSpec.witness6 (enc := enc) (C := Try.checked) false ⟨#[], #[.slice none 0 0, .int .i64 0], []⟩ 8 (by kernel_rfl) (by kernel_rfl) (by kernel_rfl) (by kernel_rfl)) ?_
  intro W base args ds gs before hval0 hW _ _
  have hval : ∀ (j : Nat) t v, Try.f5.params[j]? = some t → args[j]? = some v → Value.okWide Try.prog W .any base t v := hval0
  have hW' := hW
  obtain ⟨p, q, hA0, hV, rfl, _, _⟩ := hW
  have hA : DataW.TrodAll enc Try.prog W 0 (fun _ => true) true Try.f5.params.toList args.toList ds p := hA0
  rw [Try.params5] at hA hval
  obtain ⟨v0, vs0, d0, ds0, p0, q_0, hargs, rfl, rfl, h0, r0⟩ := trodAll_cons hA
  obtain ⟨v1, vs1, d1, ds1, p1, q_1, rfl, rfl, rfl, h1, r1⟩ := trodAll_cons r0
  obtain ⟨rfl, rfl, rfl⟩ := trodAll_nil r1
  obtain rfl : args = #[v0, v1] := by cases args; simp_all
  obtain ⟨rfl, rfl⟩ := trodVars_none hV
  clear hA0 hval0
  simp only [List.append_nil] at hW'
  obtain ⟨q0, cap0, l0, rfl, hS0, hm0⟩ := ints_of_trod (hval 0 33 v0 rfl rfl) h0
  have hlt0 : ∀ x ∈ p0, x.block < W.heap.size := fun x hx => by simpa using hW'.lt x (by simpa using (by simp [hx]))
  obtain ⟨a1, rfl, rfl, rfl, w1⟩ := open_int Try.underlying3 (hval 1 3 v1 rfl rfl) h1
  refine (givenUp_walk step_any q0 cap0 l0 a1 W hS0).mono fun e W' ⟨he, hb⟩ => ?_
  subst he
  have hT : DataW.TrodAll enc Try.prog W' 0 (fun b => decide (b < W.heap.size)) true _ _ _ _ := (trodAll_cons_mk (Below.trod laidOut (by kernel_rfl) (of_decide_eq_true (by kernel_rfl)) h0 hb hlt0) (trodAll_cons_mk (shut_int Try.underlying3 w1) trodAll_mk0))
  simp only [List.append_nil] at hT
  exact ⟨_, rfl, _, _, _, [], p0, [], hW', trodAll_mk1 (shut_bool Try.underlying4 _), hT, rfl, hb.frame _, fun h => by cases h⟩

theorem sagaGivenUp_holds : Rows.SagaGivenUpSaid :=
  OpenClaim.holds_of_wide 5 Try.f5 rfl rfl rfl rfl rfl rfl rfl ⟨rfl, rfl, rfl, rfl, rfl⟩ rfl rfl rfl rfl rfl (by kernel_rfl) Try.func5 (by kernel_rfl)
    (of_decide_eq_true (by kernel_rfl)) (by unfold Func.isWrapper; first | (rw [if_pos (by decide +kernel)]; kernel_rfl) | (rw [if_neg (by decide +kernel)]; exact ⟨rfl, rfl⟩))
    (fun os started H enc _ => sagaGivenUp_lifted os started H enc)
#print axioms sagaGivenUp_holds


end Go.Proofs.Ytlggakjfgapppaa
