/- TallyBack: the law returns true for every three numbers: what is added and taken away again is what it was, and so many times is so many together. It has no conditions. -/
import Derived.Test.YtcfpcffcafjkjaaShare
import Derived.Test.YtcfpcffcafjkjaaRows
import Derived.ProofKit
import Derived.OpenShut
import Derived.ChangeSlices
namespace Go.Proofs.Ytcfpcffcafjkjaa
open Go.ChangeShapes Go.WideShapes Go.ChangeAt Go.RowKit

theorem IsRow.ints {w : World} {g : Nat} {l : List Int} (h : IsRow w g l) : IntsP w (some ⟨g, 0, none⟩) l.length l := by
  refine ⟨Nat.le_refl _, fun hne => ⟨g, 0, rfl, ?_, fun j x hj => by rw [Nat.zero_add]; exact h.cell hj⟩⟩
  cases l with
  | nil => exact absurd rfl hne
  | cons x r => exact World.block_lt_of_cell? w _ (h.cell (i := 0) rfl)

/-- The first k of n set to a, the others nothing. -/
def fillL (a : Int) (n k : Nat) : List Int := List.replicate k a ++ List.replicate (n - k) 0
theorem fillL_zero (a : Int) (n : Nat) : fillL a n 0 = List.replicate n 0 := by simp [fillL]
theorem fillL_all (a : Int) (n : Nat) : fillL a n n = List.replicate n a := by simp [fillL]
theorem fillL_get {a : Int} {n k : Nat} (h : k < n) : (fillL a n k)[k]? = some 0 := by
  unfold fillL
  rw [List.getElem?_append_right (by simp), List.length_replicate, Nat.sub_self, List.getElem?_replicate]
  simp; omega
theorem fillL_set {a : Int} {n k : Nat} (h : k < n) : (fillL a n k).set k a = fillL a n (k + 1) := by
  unfold fillL
  rw [List.set_append_right _ _ (by simp), List.length_replicate, Nat.sub_self, show n - k = (n - (k + 1)) + 1 by omega, List.replicate_succ, List.set_cons_zero, List.replicate_succ']
  simp

theorem less_add {a b : Int} (h : addOk a b = true) : addV a b = a + b ∧ addE a b = 0 ∧ lessV (a + b) b = a ∧ lessE (a + b) b = 0 := by
  have h' := h
  unfold addOk at h'
  simp only [Bool.and_eq_true] at h'
  obtain ⟨ha, hb, hc⟩ := h'
  have hl : lessOk (a + b) b = true := by
    have := okT_true.1 ha
    simp [lessOk, hc, hb]; omega
  refine ⟨by simp [addV, h], by simp [addE, h], by simp [lessV, hl], by simp [lessE, hl]⟩

set_option maxHeartbeats 2000000 in
theorem back_t_neg (a b : Int) (n : Int) (hn : decide (n < 0) = true) (h : addOk a b = true) (w : World) : Calls Try.prog 7 #[.int .i64 a, .int .i64 b, .int .i64 n] w (TrueB w) := by
  have C1 := Lib.hid (fun W => add_any a b W)
  have C2 := Lib.hid (fun W => less_any (a + b) b W)
  obtain ⟨e1, e2, e3, e4⟩ := less_add h
  rw [e1, e2] at C1
  rw [e3, e4] at C2
  clear h e1 e2 e3 e4
  go_enter Try.func7, Try.ntmps7
  go_wp2_with fail
  refine (alive_any _).mono ?_
  rintro e w1 ⟨rfl, b1⟩
  go_wp2_with fail
  refine (C1.out _).mono ?_
  rintro e w2 ⟨rfl, b2⟩
  have B := b1.trans (b2.mono b1.size)
  clear b1 b2
  go_wp2_with fail
  refine (C2.out _).mono ?_
  rintro e w' ⟨rfl, rfl⟩
  go_wp2_with fail
  go_ret
  exact ⟨rfl, B⟩

set_option maxHeartbeats 2000000 in
theorem back_t_great (a b : Int) (n : Int) (hn0 : decide (n < 0) = false) (hn : decide (100 < n) = true) (h : addOk a b = true) (w : World) : Calls Try.prog 7 #[.int .i64 a, .int .i64 b, .int .i64 n] w (TrueB w) := by
  have C1 := Lib.hid (fun W => add_any a b W)
  have C2 := Lib.hid (fun W => less_any (a + b) b W)
  obtain ⟨e1, e2, e3, e4⟩ := less_add h
  rw [e1, e2] at C1
  rw [e3, e4] at C2
  clear h e1 e2 e3 e4
  go_enter Try.func7, Try.ntmps7
  go_wp2_with fail
  refine (alive_any _).mono ?_
  rintro e w1 ⟨rfl, b1⟩
  go_wp2_with fail
  refine (C1.out _).mono ?_
  rintro e w2 ⟨rfl, b2⟩
  have B := b1.trans (b2.mono b1.size)
  clear b1 b2
  go_wp2_with fail
  refine (C2.out _).mono ?_
  rintro e w' ⟨rfl, rfl⟩
  go_wp2_with fail
  go_ret
  exact ⟨rfl, B⟩

set_option maxHeartbeats 2000000 in
theorem back_t_wrong (a b : Int) (n : Int) (hn0 : decide (n < 0) = false) (hn : decide (100 < n) = false) (hr : okT a = false) (h : addOk a b = true) (w : World) : Calls Try.prog 7 #[.int .i64 a, .int .i64 b, .int .i64 n] w (TrueB w) := by
  have C1 := Lib.hid (fun W => add_any a b W)
  have C2 := Lib.hid (fun W => less_any (a + b) b W)
  obtain ⟨e1, e2, e3, e4⟩ := less_add h
  rw [e1, e2] at C1
  rw [e3, e4] at C2
  clear h e1 e2 e3 e4
  have C3 := Lib.hid (fun W => right_any a W)
  rw [hr] at C3
  clear hr
  go_enter Try.func7, Try.ntmps7
  go_wp2_with fail
  refine (alive_any _).mono ?_
  rintro e w1 ⟨rfl, b1⟩
  go_wp2_with fail
  refine (C1.out _).mono ?_
  rintro e w2 ⟨rfl, b2⟩
  have B := b1.trans (b2.mono b1.size)
  clear b1 b2
  go_wp2_with fail
  refine (C2.out _).mono ?_
  rintro e w' ⟨rfl, rfl⟩
  go_wp2_with fail
  refine (C3.out _).mono ?_
  rintro e w' ⟨rfl, rfl⟩
  go_wp2_with fail
  go_ret
  exact ⟨rfl, B⟩

set_option maxHeartbeats 2000000 in
theorem back_t_fill (a b : Int) (n : Nat) (hn : n ≤ 100) (hr : okT a = true) (h : addOk a b = true) (w : World) : Calls Try.prog 7 #[.int .i64 a, .int .i64 b, .int .i64 n] w (TrueB w) := by
  have C1 := Lib.hid (fun W => add_any a b W)
  have C2 := Lib.hid (fun W => less_any (a + b) b W)
  obtain ⟨e1, e2, e3, e4⟩ := less_add h
  rw [e1, e2] at C1
  rw [e3, e4] at C2
  clear h e1 e2 e3 e4
  have C3 := Lib.hid (fun W => right_any a W)
  rw [hr] at C3
  have C4 := Lib.hid (fun W g (h : IsRow W g (List.replicate n a)) => sum_any _ _ (List.replicate n a) W h.ints (by simp; omega))
  have C5 := Lib.hid (fun W => times_any a n W)
  rw [(sum_replicate a hr n hn).1, (sum_replicate a hr n hn).2, List.length_replicate] at C4
  generalize timesV a n = tv at *
  generalize timesE a n = te at *
  have hmk := make_run n (by omega)
  have d1 : decide ((n : Int) < 0) = false := by simp
  have d2 : decide (100 < (n : Int)) = false := by simp; omega
  clear hr
  go_enter Try.func7, Try.ntmps7
  go_wp2_with fail
  refine (alive_any _).mono ?_
  rintro e w1 ⟨rfl, b1⟩
  go_wp2_with fail
  refine (C1.out _).mono ?_
  rintro e w2 ⟨rfl, b2⟩
  have B := b1.trans (b2.mono b1.size)
  clear b1 b2
  go_wp2_with fail
  refine (C2.out _).mono ?_
  rintro e w' ⟨rfl, rfl⟩
  go_wp2_with fail
  refine (C3.out _).mono ?_
  rintro e w' ⟨rfl, rfl⟩
  go_wp2_with fail
  clear hmk
  go_loopw [55] (fun i wr => ∃ k : Nat, k ≤ n ∧ i = .int .i64 k ∧ IsRow wr w2.heap.size (fillL a n k) ∧ Below w.heap.size w wr) (fun i _ => n - (intOf i).toNat)
  case atStart => exact ⟨0, Nat.zero_le _, rfl, by rw [fillL_zero]; exact made_row n _, B.alloc B.size _⟩
  case round =>
    obtain ⟨k, hk, rfl, hrow, hbw⟩ := hrel
    have HR := Lib.hid hrow
    clear hrow
    by_cases hlt : k < n
    · have hc := HR.out.cell (fillL_get (a := a) hlt)
      have hf := HR.out.frozen k
      have hkk : (k : Int) < n := by omega
      go_wp2_with fail
      go_roundw
      case rel =>
        refine ⟨k + 1, by omega, by go_num, ?_, hbw.setCell B.size _⟩
        have h1 := HR.out.set k a
        rw [fillL_set hlt] at h1
        exact h1
      case measure => simp [intOf]; omega
    · have hkn : k = n := by omega
      subst hkn
      rw [fillL_all] at HR
      go_wp2_with fail
      refine (C4.out _ _ HR.out).mono ?_
      rintro e w' ⟨rfl, rfl⟩
      go_wp2_with fail
      refine (C5.out _).mono ?_
      rintro e w' ⟨rfl, rfl⟩
      go_wp2_with fail
      go_ret
      exact ⟨rfl, hbw⟩

set_option maxHeartbeats 2000000 in
theorem back_f_neg (a b : Int) (n : Int) (hn : decide (n < 0) = true) (h : addOk a b = false) (w : World) : Calls Try.prog 7 #[.int .i64 a, .int .i64 b, .int .i64 n] w (TrueB w) := by
  have C1 := Lib.hid (fun W => add_any a b W)
  rw [show addV a b = 0 by simp [addV, h], show addE a b = 21 by simp [addE, h]] at C1
  clear h
  go_enter Try.func7, Try.ntmps7
  go_wp2_with fail
  refine (alive_any _).mono ?_
  rintro e w1 ⟨rfl, b1⟩
  go_wp2_with fail
  refine (C1.out _).mono ?_
  rintro e w2 ⟨rfl, b2⟩
  have B := b1.trans (b2.mono b1.size)
  clear b1 b2
  go_wp2_with fail
  go_ret
  exact ⟨rfl, B⟩

set_option maxHeartbeats 2000000 in
theorem back_f_great (a b : Int) (n : Int) (hn0 : decide (n < 0) = false) (hn : decide (100 < n) = true) (h : addOk a b = false) (w : World) : Calls Try.prog 7 #[.int .i64 a, .int .i64 b, .int .i64 n] w (TrueB w) := by
  have C1 := Lib.hid (fun W => add_any a b W)
  rw [show addV a b = 0 by simp [addV, h], show addE a b = 21 by simp [addE, h]] at C1
  clear h
  go_enter Try.func7, Try.ntmps7
  go_wp2_with fail
  refine (alive_any _).mono ?_
  rintro e w1 ⟨rfl, b1⟩
  go_wp2_with fail
  refine (C1.out _).mono ?_
  rintro e w2 ⟨rfl, b2⟩
  have B := b1.trans (b2.mono b1.size)
  clear b1 b2
  go_wp2_with fail
  go_ret
  exact ⟨rfl, B⟩

set_option maxHeartbeats 2000000 in
theorem back_f_wrong (a b : Int) (n : Int) (hn0 : decide (n < 0) = false) (hn : decide (100 < n) = false) (hr : okT a = false) (h : addOk a b = false) (w : World) : Calls Try.prog 7 #[.int .i64 a, .int .i64 b, .int .i64 n] w (TrueB w) := by
  have C1 := Lib.hid (fun W => add_any a b W)
  rw [show addV a b = 0 by simp [addV, h], show addE a b = 21 by simp [addE, h]] at C1
  clear h
  have C3 := Lib.hid (fun W => right_any a W)
  rw [hr] at C3
  clear hr
  go_enter Try.func7, Try.ntmps7
  go_wp2_with fail
  refine (alive_any _).mono ?_
  rintro e w1 ⟨rfl, b1⟩
  go_wp2_with fail
  refine (C1.out _).mono ?_
  rintro e w2 ⟨rfl, b2⟩
  have B := b1.trans (b2.mono b1.size)
  clear b1 b2
  go_wp2_with fail
  refine (C3.out _).mono ?_
  rintro e w' ⟨rfl, rfl⟩
  go_wp2_with fail
  go_ret
  exact ⟨rfl, B⟩

set_option maxHeartbeats 2000000 in
theorem back_f_fill (a b : Int) (n : Nat) (hn : n ≤ 100) (hr : okT a = true) (h : addOk a b = false) (w : World) : Calls Try.prog 7 #[.int .i64 a, .int .i64 b, .int .i64 n] w (TrueB w) := by
  have C1 := Lib.hid (fun W => add_any a b W)
  rw [show addV a b = 0 by simp [addV, h], show addE a b = 21 by simp [addE, h]] at C1
  clear h
  have C3 := Lib.hid (fun W => right_any a W)
  rw [hr] at C3
  have C4 := Lib.hid (fun W g (h : IsRow W g (List.replicate n a)) => sum_any _ _ (List.replicate n a) W h.ints (by simp; omega))
  have C5 := Lib.hid (fun W => times_any a n W)
  rw [(sum_replicate a hr n hn).1, (sum_replicate a hr n hn).2, List.length_replicate] at C4
  generalize timesV a n = tv at *
  generalize timesE a n = te at *
  have hmk := make_run n (by omega)
  have d1 : decide ((n : Int) < 0) = false := by simp
  have d2 : decide (100 < (n : Int)) = false := by simp; omega
  clear hr
  go_enter Try.func7, Try.ntmps7
  go_wp2_with fail
  refine (alive_any _).mono ?_
  rintro e w1 ⟨rfl, b1⟩
  go_wp2_with fail
  refine (C1.out _).mono ?_
  rintro e w2 ⟨rfl, b2⟩
  have B := b1.trans (b2.mono b1.size)
  clear b1 b2
  go_wp2_with fail
  refine (C3.out _).mono ?_
  rintro e w' ⟨rfl, rfl⟩
  go_wp2_with fail
  clear hmk
  go_loopw [55] (fun i wr => ∃ k : Nat, k ≤ n ∧ i = .int .i64 k ∧ IsRow wr w2.heap.size (fillL a n k) ∧ Below w.heap.size w wr) (fun i _ => n - (intOf i).toNat)
  case atStart => exact ⟨0, Nat.zero_le _, rfl, by rw [fillL_zero]; exact made_row n _, B.alloc B.size _⟩
  case round =>
    obtain ⟨k, hk, rfl, hrow, hbw⟩ := hrel
    have HR := Lib.hid hrow
    clear hrow
    by_cases hlt : k < n
    · have hc := HR.out.cell (fillL_get (a := a) hlt)
      have hf := HR.out.frozen k
      have hkk : (k : Int) < n := by omega
      go_wp2_with fail
      go_roundw
      case rel =>
        refine ⟨k + 1, by omega, by go_num, ?_, hbw.setCell B.size _⟩
        have h1 := HR.out.set k a
        rw [fillL_set hlt] at h1
        exact h1
      case measure => simp [intOf]; omega
    · have hkn : k = n := by omega
      subst hkn
      rw [fillL_all] at HR
      go_wp2_with fail
      refine (C4.out _ _ HR.out).mono ?_
      rintro e w' ⟨rfl, rfl⟩
      go_wp2_with fail
      refine (C5.out _).mono ?_
      rintro e w' ⟨rfl, rfl⟩
      go_wp2_with fail
      go_ret
      exact ⟨rfl, hbw⟩

theorem back_walk (a b n : Int) (w : World) : Calls Try.prog 7 #[.int .i64 a, .int .i64 b, .int .i64 n] w (TrueB w) := by
  cases h : addOk a b <;> cases h1 : decide (n < 0) <;> cases h2 : decide (100 < n) <;> cases h3 : okT a
  all_goals
    first
    | exact back_t_neg a b n h1 h w
    | exact back_f_neg a b n h1 h w
    | exact back_t_great a b n h1 h2 h w
    | exact back_f_great a b n h1 h2 h w
    | exact back_t_wrong a b n h1 h2 h3 h w
    | exact back_f_wrong a b n h1 h2 h3 h w
    | (simp at h1 h2
       obtain ⟨m, rfl⟩ := Int.eq_ofNat_of_zero_le h1
       first
       | exact back_t_fill a b m (by omega) h3 h w
       | exact back_f_fill a b m (by omega) h3 h w)

theorem own : ownKnob Try.prog.godebug = none := by kernel_rfl

set_option maxRecDepth 100000 in
theorem tallyBack_lifted (os : Os) (started : os.Started) (H : Type) (enc : TypeId × Value → H) :
    ReturnsInHanded {} Try.checked os 7 .any (Rows.tallyBackSpec.pre6 enc Try.prog Try.f7 Rows.tallyBackRow.domain false) (Rows.tallyBackSpec.post enc Try.prog Try.f7 false true false false) := by
  refine returnsInHanded_of_change (C := Try.checked) own started (by kernel_rfl) Try.func7
    (ChangeSpec.witness6 (enc := enc) (C := Try.checked) false ⟨#[], #[.int .i64 0, .int .i64 0, .int .i64 0], []⟩ 8 (by kernel_rfl) (by kernel_rfl) (by kernel_rfl) (by kernel_rfl)) ?_
  intro W base args ds gs before hval0 hW hcnd _
  have hval : ∀ (j : Nat) t v, Try.f7.params[j]? = some t → args[j]? = some v → Value.okWide Try.prog W .any base t v := hval0
  have hW' := hW
  obtain ⟨p, q, hA0, hV, rfl, hfz, hnd⟩ := hW
  have hA : DataW.TrodAll enc Try.prog W 0 (fun _ => true) true Try.f7.params.toList args.toList ds p := hA0
  rw [Try.params7] at hA hval
  obtain ⟨v0, vs0, d0, ds0, p0, q_0, hargs, rfl, rfl, h0, r0⟩ := trodAll_cons hA
  obtain ⟨v1, vs1, d1, ds1, p1, q_1, rfl, rfl, rfl, h1, r1⟩ := trodAll_cons r0
  obtain ⟨v2, vs2, d2, ds2, p2, q_2, rfl, rfl, rfl, h2, r2⟩ := trodAll_cons r1
  obtain ⟨rfl, rfl, rfl⟩ := trodAll_nil r2
  obtain rfl : args = #[v0, v1, v2] := by cases args; simp_all
  obtain ⟨rfl, rfl⟩ := trodVars_none hV
  clear hA0 hval0
  simp only [List.append_nil, List.nil_append] at hW'
  obtain ⟨a0, rfl, rfl, rfl, w0⟩ := open_int Try.underlying2 (hval 0 2 v0 rfl rfl) h0
  obtain ⟨a1, rfl, rfl, rfl, w1⟩ := open_int Try.underlying2 (hval 1 2 v1 rfl rfl) h1
  obtain ⟨a2, rfl, rfl, rfl, w2⟩ := open_int Try.underlying3 (hval 2 3 v2 rfl rfl) h2
  refine (back_walk a0 a1 a2 W).mono fun e W' ⟨he, hb⟩ => ?_
  subst he
  exact ⟨_, rfl, _, _, _, [], [], [], hW', trodAll_mk1 (shut_bool Try.underlying4 _), (trodAll_cons_mk (shut_int Try.underlying2 w0) (trodAll_cons_mk (shut_int Try.underlying2 w1) (trodAll_cons_mk (shut_int Try.underlying3 w2) trodAll_mk0))), rfl, hb.frame _, fun h => by cases h⟩

theorem tallyBack_holds : Rows.TallyBackSaid :=
  OpenClaim.holds_of_wide 7 Try.f7 rfl rfl rfl rfl rfl rfl rfl ⟨rfl, rfl, rfl, rfl, rfl⟩ rfl rfl rfl rfl rfl (by kernel_rfl) Try.func7 (by kernel_rfl)
    (of_decide_eq_true (by kernel_rfl)) (by unfold Func.isWrapper; first | (rw [if_pos (by decide +kernel)]; kernel_rfl) | (rw [if_neg (by decide +kernel)]; exact ⟨rfl, rfl⟩))
    (fun os started H enc _ => tallyBack_lifted os started H enc)
#print axioms tallyBack_holds

end Go.Proofs.Ytcfpcffcafjkjaa
