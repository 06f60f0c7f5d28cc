/- TallyShares: the law returns true for every number in any parts: the parts are it together, fall, and none is more than one above another one. It has no conditions. -/
import Derived.Test.YtcfpcffcafjkjaaShare
import Derived.Test.YtcfpcffcafjkjaaRows
import Derived.ProofKit
import Derived.OpenShut
import Derived.ChangeSlices
import Derived.Deep.QuietTactic
import Derived.BigQuiet
namespace Go.Proofs.Ytcfpcffcafjkjaa
open Go.ChangeShapes Go.WideShapes Go.ChangeAt Go.RowKit

set_option maxHeartbeats 2000000 in
theorem shares_bad (n p : Int) (w : World) (h : okT n = false ∨ p < 1 ∨ 1000 < p) : Calls Try.prog 6 #[.int .i64 n, .int .i64 p] w (TrueB w) := by
  have C1 := Lib.hid (fun W => share_bad n p W h)
  have C2 := Lib.hid (fun W => right_any n W)
  cases hn : okT n with
  | false =>
    rw [hn] at C2
    clear hn h
    go_enter Try.func6, Try.ntmps6
    go_wp2_with fail
    refine (alive_any _).mono ?_
    rintro e w1 ⟨rfl, b1⟩
    go_wp2_with fail
    refine (C1.out _).mono ?_
    rintro e w' ⟨rfl, rfl⟩
    go_wp2_with fail
    refine (C2.out _).mono ?_
    rintro e w' ⟨rfl, rfl⟩
    go_wp2_with fail
    go_ret
    exact ⟨rfl, b1⟩
  | true =>
    rw [hn] at C2 h
    simp only [Bool.true_eq_false, false_or] at h
    clear hn
    cases h1 : decide (p < 1) with
    | true =>
      clear h
      go_enter Try.func6, Try.ntmps6
      go_wp2_with fail
      refine (alive_any _).mono ?_
      rintro e w1 ⟨rfl, b1⟩
      go_wp2_with fail
      refine (C1.out _).mono ?_
      rintro e w' ⟨rfl, rfl⟩
      go_wp2_with fail
      refine (C2.out _).mono ?_
      rintro e w' ⟨rfl, rfl⟩
      go_wp2_with fail
      go_ret
      exact ⟨rfl, b1⟩
    | false =>
      have h2 : decide (1000 < p) = true := by simp at h1 ⊢; omega
      clear h
      go_enter Try.func6, Try.ntmps6
      go_wp2_with fail
      refine (alive_any _).mono ?_
      rintro e w1 ⟨rfl, b1⟩
      go_wp2_with fail
      refine (C1.out _).mono ?_
      rintro e w' ⟨rfl, rfl⟩
      go_wp2_with fail
      refine (C2.out _).mono ?_
      rintro e w' ⟨rfl, rfl⟩
      go_wp2_with fail
      go_ret
      exact ⟨rfl, b1⟩

theorem IsRow.ints {w : World} {g : Nat} {l : List Int} (h : IsRow w g l) : IntsP w (some ⟨g, 0, none⟩) l.length l := by
  refine ⟨Nat.le_refl _, fun hne => ⟨g, 0, rfl, ?_, fun j x hj => by rw [Nat.zero_add]; exact h.cell hj⟩⟩
  cases l with
  | nil => exact absurd rfl hne
  | cons x r => exact World.block_lt_of_cell? w _ (h.cell (i := 0) rfl)

theorem below_drewN {B : Nat} {a w : World} (h : Below B a w) (n : Nat) : Below B a (w.drewN n) := ⟨h.os, h.tape, h.output, h.size, h.block⟩
theorem IsRow.drew {w : World} {g : Nat} {l : List Int} (h : IsRow w g l) : IsRow w.drew g l := h
theorem IsRow.lt {w : World} {g : Nat} {l : List Int} (h : IsRow w g l) : g < w.heap.size := by
  rcases Nat.lt_or_ge g w.heap.size with hlt | hge
  · exact hlt
  · unfold IsRow at h; rw [Array.getElem?_eq_none hge] at h; cases h

set_option maxHeartbeats 2000000 in
theorem shares_good (n : Int) (m : Nat) (w : World) (hn : okT n = true) (hm : m < 1000) : Calls Try.prog 6 #[.int .i64 n, .int .i64 ((m + 1 : Nat) : Int)] w (TrueB w) := by
  have C1 := Lib.hid (fun W => share_good n (m + 1) W hn (by omega) (by omega))
  have C2 := Lib.hid (fun W => right_any n W)
  rw [hn] at C2
  have S := sum_shares n (m + 1) hn (by omega)
  have C3 := Lib.hid (fun W g (h : IsRow W g (shareL n (m + 1))) => sum_any _ _ (shareL n (m + 1)) W h.ints (by rw [shareL_len]; omega))
  rw [S.1, S.2, shareL_len] at C3
  obtain ⟨n0, n1⟩ := okT_true.1 hn
  have hp1 : decide (((m + 1 : Nat) : Int) < 1) = false := by simp; omega
  have hp3 : decide (1000 < ((m + 1 : Nat) : Int)) = false := by simp; omega
  have f0 := share_pos n (m + 1) m n0
  have f1 := share_near n (m + 1) 0 m
  have f2 := share_le n (m + 1) m n0
  have f3 := share_pos n (m + 1) 0 n0
  have f4 := share_le n (m + 1) 0 n0
  have FALL := Lib.hid (share_falls n (m + 1))
  clear S hn
  go_enter Try.func6, Try.ntmps6
  go_wp2_with fail
  refine (alive_any _).mono ?_
  rintro e w1 ⟨rfl, b1⟩
  go_wp2_with fail
  refine (C1.out _).mono ?_
  rintro e w2 ⟨g, rfl, hr, b2⟩
  have B := b1.trans (b2.mono b1.size)
  have HR := Lib.hid hr
  clear hr b1 b2
  go_wp2_with fail
  refine (C2.out _).mono ?_
  rintro e w' ⟨rfl, rfl⟩
  have c0 := HR.out.cell (shareL_get (i := 0) (by omega))
  have cm := HR.out.cell (shareL_get (i := m) (by omega))
  generalize shareI n ((m + 1 : Nat) : Int) 0 = s0 at *
  generalize shareI n ((m + 1 : Nat) : Int) m = sm at *
  have d1 : decide (1 < s0 - sm) = false := by simp; omega
  have d2 : decide (sm < 0) = false := by simp; omega
  have x1 : IntKind.i64.wrap (s0 - sm) = s0 - sm := IntWalk.i64_in _ (by omega)
  have x2 : IntKind.i64.wrap ((m : Int) + 1 - 1) = m := by rw [IntWalk.i64_in _ (by omega)]; omega
  go_wp2_with fail
  go_quiet (fail)
  clear x1 x2
  go_wp2_with fail
  go_loopw [7] (fun i wr => ∃ j : Nat, j ≤ m ∧ i = .int .i64 ((j : Int) + 1) ∧ IsRow wr g (shareL n (m + 1)) ∧ Below w.heap.size w wr) (fun i _ => m + 1 - (intOf i).toNat)
  case atStart => exact ⟨0, Nat.zero_le _, rfl, HR.out, below_drewN B _⟩
  case round =>
    obtain ⟨j, hj, rfl, hrow, hbw⟩ := hrel
    have HRR := Lib.hid hrow
    clear hrow c0 cm HR B d1 d2 f0 f1 f2 f3 f4
    cases hlt : decide (j < m) with
    | true =>
      have hlt' : j < m := by simpa using hlt
      have c0 := HRR.out.cell (shareL_get (i := j) (by omega))
      have c1 := HRR.out.cell (shareL_get (i := j + 1) (by omega))
      have f := FALL.out j
      have f0 := share_pos n (m + 1) j n0
      have f1 := share_le n (m + 1) j n0
      have f2 := share_pos n (m + 1) (j + 1) n0
      generalize shareI n ((m + 1 : Nat) : Int) j = s at *
      generalize shareI n ((m + 1 : Nat) : Int) (j + 1) = t at *
      have d1 : decide (s < t) = false := by simp; omega
      have x2 : IntKind.i64.wrap ((j : Int) + 1 - 1) = j := by rw [IntWalk.i64_in _ (by omega)]; omega
      have x3 : ((j : Int) + 1).toNat = j + 1 := by omega
      clear hlt
      go_wp2_with fail
      go_quiet (fail)
      clear x2 x3
      go_wp2_with fail
      go_roundw
      case rel => exact ⟨j + 1, by omega, by go_num, HRR.out, below_drewN hbw _⟩
      case measure => simp [intOf]; omega
    | false =>
      have hjm : j = m := by simp at hlt; omega
      subst hjm
      clear hlt
      go_wp2_with fail
      refine (C3.out _ _ HRR.out).mono ?_
      rintro e w' ⟨rfl, rfl⟩
      go_wp2_with fail
      go_ret
      exact ⟨rfl, hbw⟩

theorem shares_walk (n p : Int) (w : World) : Calls Try.prog 6 #[.int .i64 n, .int .i64 p] w (TrueB w) := by
  by_cases h : okT n = false ∨ p < 1 ∨ 1000 < p
  · exact shares_bad n p w h
  · have hn : okT n = true := by
      cases e : okT n
      · exact absurd (Or.inl e) h
      · rfl
    have hp : 1 ≤ p ∧ p ≤ 1000 := by constructor <;> (refine Int.not_lt.1 fun hc => h ?_; omega)
    obtain ⟨m, rfl⟩ : ∃ m : Nat, p = ((m + 1 : Nat) : Int) := ⟨(p - 1).toNat, by omega⟩
    exact shares_good n m w hn (by omega)

theorem own : ownKnob Try.prog.godebug = none := by kernel_rfl

set_option maxRecDepth 100000 in
theorem tallyShares_lifted (os : Os) (started : os.Started) (H : Type) (enc : TypeId × Value → H) :
    ReturnsInHanded {} Try.checked os 6 .any (Rows.tallySharesSpec.pre6 enc Try.prog Try.f6 Rows.tallySharesRow.domain false) (Rows.tallySharesSpec.post enc Try.prog Try.f6 false true false false) := by
  refine returnsInHanded_of_change (C := Try.checked) own started (by kernel_rfl) Try.func6
    (ChangeSpec.witness6 (enc := enc) (C := Try.checked) false ⟨#[], #[.int .i64 0, .int .i64 0], []⟩ 8 (by kernel_rfl) (by kernel_rfl) (by kernel_rfl) (by kernel_rfl)) ?_
  intro W base args ds gs before hval0 hW hcnd _
  have hval : ∀ (j : Nat) t v, Try.f6.params[j]? = some t → args[j]? = some v → Value.okWide Try.prog W .any base t v := hval0
  have hW' := hW
  obtain ⟨p, q, hA0, hV, rfl, hfz, hnd⟩ := hW
  have hA : DataW.TrodAll enc Try.prog W 0 (fun _ => true) true Try.f6.params.toList args.toList ds p := hA0
  rw [Try.params6] at hA hval
  obtain ⟨v0, vs0, d0, ds0, p0, q_0, hargs, rfl, rfl, h0, r0⟩ := trodAll_cons hA
  obtain ⟨v1, vs1, d1, ds1, p1, q_1, rfl, rfl, rfl, h1, r1⟩ := trodAll_cons r0
  obtain ⟨rfl, rfl, rfl⟩ := trodAll_nil r1
  obtain rfl : args = #[v0, v1] := by cases args; simp_all
  obtain ⟨rfl, rfl⟩ := trodVars_none hV
  clear hA0 hval0
  simp only [List.append_nil, List.nil_append] at hW'
  obtain ⟨a0, rfl, rfl, rfl, w0⟩ := open_int Try.underlying2 (hval 0 2 v0 rfl rfl) h0
  obtain ⟨a1, rfl, rfl, rfl, w1⟩ := open_int Try.underlying3 (hval 1 3 v1 rfl rfl) h1
  refine (shares_walk a0 a1 W).mono fun e W' ⟨he, hb⟩ => ?_
  subst he
  exact ⟨_, rfl, _, _, _, [], [], [], hW', trodAll_mk1 (shut_bool Try.underlying4 _), (trodAll_cons_mk (shut_int Try.underlying2 w0) (trodAll_cons_mk (shut_int Try.underlying3 w1) trodAll_mk0)), rfl, hb.frame _, fun h => by cases h⟩

theorem tallyShares_holds : Rows.TallySharesSaid :=
  OpenClaim.holds_of_wide 6 Try.f6 rfl rfl rfl rfl rfl rfl rfl ⟨rfl, rfl, rfl, rfl, rfl⟩ rfl rfl rfl rfl rfl (by kernel_rfl) Try.func6 (by kernel_rfl)
    (of_decide_eq_true (by kernel_rfl)) (by unfold Func.isWrapper; first | (rw [if_pos (by decide +kernel)]; kernel_rfl) | (rw [if_neg (by decide +kernel)]; exact ⟨rfl, rfl⟩))
    (fun os started H enc _ => tallyShares_lifted os started H enc)
#print axioms tallyShares_holds

end Go.Proofs.Ytcfpcffcafjkjaa
