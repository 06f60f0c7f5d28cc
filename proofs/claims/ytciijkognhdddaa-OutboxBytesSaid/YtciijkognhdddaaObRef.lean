/- The document's One, Right and Backoff. -/
import Derived.Test.YtciijkognhdddaaObRight
namespace Go.Proofs.Ytciijkognhdddaa
set_option maxRecDepth 100000
open Go.RowKit Go.ChangeShapes Go.WideShapes Go.ChangeAt
attribute [local go_sem ↓] ldEf stEf alEf bxEf eqEf bdEf bsEf
attribute [local go_sem] al_ef bx_ef st_new bd_ef bs_ef bs_ef0

theorem above_two (n : Int) : aboveB n = (!decide (n < 1) && !decide (1000000000000 < n)) := by
  rw [Bool.eq_iff_iff]
  simp [aboveB]
theorem above_pos (n : Int) : aboveB n = (decide (0 < n) && decide (n ≤ 1000000000000)) := by
  rw [Bool.eq_iff_iff]
  simp [aboveB]; omega
theorem one_doc (e : Ef) : oneB e = (!decide (e.key < 1) && (!decide (1000000000000 < e.key) && (tickB e.due && (!decide (e.tries < 0) && (!decide (1000000 < e.tries) && ofB e))))) := by
  have : triesB e.tries = (!decide (e.tries < 0) && !decide (1000000 < e.tries)) := by rw [Bool.eq_iff_iff]; simp [triesB]
  rw [oneB, this, above_two]
  simp only [Bool.and_assoc]

set_option maxHeartbeats 4000000 in
theorem refOne_any (e : Ef) (w : World) (hs : e.order.size ≤ maxLen) : Calls Try.prog 43 #[efV e] w (Tell (oneB e) w) := by
  have C1 := Lib.hid (fun w => refTick_any e.due w)
  have C2 := Lib.hid (fun w => refRight_any e.order w hs)
  have B := Lib.hid ((Below.refl w.heap.size w).alloc (Nat.le_refl _) (Obj.cells (efC e) 27))
  have D : Row (w.alloc (.cells (efC e) 27)) w.heap.size 27 (efC e) := Row.new _ _ _
  have HE := Lib.hid (one_doc e)
  have H1 := Lib.hid (ofB_both (e := e))
  have H2 := Lib.hid (ofB_sole (e := e))
  have H3 := Lib.hid (ofB_none (e := e))
  have ET := emptyT_test e.order
  unfold rightT at H2
  obtain ⟨c0, c1, c2, c3, c4, c5⟩ := D.c
  clear D
  cases k1 : decide (e.key < 1) with
  | true =>
    go_enter Try.func43, Try.ntmps43
    go_wp2_with fail
    go_ret
    exact ⟨by rw [HE.out, k1]; rfl, B.out⟩
  | false =>
    cases k2 : decide (1000000000000 < e.key) with
    | true =>
      go_enter Try.func43, Try.ntmps43
      go_wp2_with fail
      go_ret
      exact ⟨by rw [HE.out, k1, k2]; rfl, B.out⟩
    | false =>
      go_enter Try.func43, Try.ntmps43
      go_wp2_with fail
      refine (C1.out _).mono ?_
      rintro x w1 ⟨rfl, rfl⟩
      generalize w.alloc (Obj.cells (efC e) 27) = W at *
      cases k3 : tickB e.due with
      | false =>
        go_wp2_with fail
        go_ret
        exact ⟨by rw [HE.out, k1, k2, k3]; rfl, B.out⟩
      | true =>
        cases k4 : decide (e.tries < 0) with
        | true =>
          go_wp2_with fail
          go_ret
          exact ⟨by rw [HE.out, k1, k2, k3, k4]; rfl, B.out⟩
        | false =>
          cases k5 : decide (1000000 < e.tries) with
          | true =>
            go_wp2_with fail
            go_ret
            exact ⟨by rw [HE.out, k1, k2, k3, k4, k5]; rfl, B.out⟩
          | false =>
            have HF := Lib.hid (show oneB e = ofB e by rw [HE.out, k1, k2, k3, k4, k5]; rfl)
            clear HE C1 k1 k2 k3
            by_cases hb : bothB e.kind = true
            · have HO := Lib.hid ((H1.out hb).trans (by rw [above_pos]))
              have hk : e.kind = 3 ∨ e.kind = 4 := by simpa [bothB] using hb
              clear H1 H2 H3 hb
              rcases hk with hk | hk
              all_goals
                rw [hk] at c3
                clear hk
                cases p1 : decide (0 < e.batch) <;> cases p2 : decide (e.batch ≤ 1000000000000)
                all_goals
                  rw [p1, p2] at HO
                  go_wp2_with fail
                  go_ret
                  first
                    | exact ⟨by rw [HF.out, HO.out]; rfl, B.out⟩
                    | exact ⟨by rw [HF.out, HO.out, ← ET]; rfl, B.out⟩
            · have hb : bothB e.kind = false := by simpa using hb
              by_cases hs : soleB e.kind = true
              · have HO := Lib.hid (H2.out hb hs)
                have hk : e.kind = 1 ∨ e.kind = 2 ∨ e.kind = 5 ∨ e.kind = 6 ∨ e.kind = 7 := by simpa [soleB] using hs
                clear H1 H2 H3 hb hs
                rcases hk with hk | hk | hk | hk | hk
                all_goals
                  rw [hk] at c3
                  clear hk
                  cases h1 : (e.batch == 0) with
                  | false =>
                    rw [h1] at HO
                    go_wp2_with fail
                    go_ret
                    exact ⟨by rw [HF.out, HO.out]; rfl, B.out⟩
                  | true =>
                    rw [h1] at HO
                    go_wp2_with fail
                    refine (C2.out _).mono ?_
                    rintro x w1 ⟨rfl, b1⟩
                    go_wp2_with fail
                    go_ret
                    exact ⟨by rw [HF.out, HO.out]; rfl, B.out.trans (b1.mono B.out.size)⟩
              · have hs : soleB e.kind = false := by simpa using hs
                have HO := Lib.hid (H3.out hb hs)
                clear H1 H2 H3
                obtain ⟨kb, ks⟩ := kinds_of e.kind
                rw [kb] at hb
                rw [ks] at hs
                simp only [Bool.or_eq_false_iff] at hb hs
                obtain ⟨k3, k4⟩ := hb
                obtain ⟨k1, k2, k5, k6, k7⟩ := hs
                clear kb ks
                go_wp2_with fail
                go_ret
                exact ⟨by rw [HF.out, HO.out]; rfl, B.out⟩

set_option maxHeartbeats 4000000 in
theorem refObRight_any (a : Option Addr) (cap : Nat) (l : List Ef) (w : World) (h : SlP LE w a cap l) (hs : ∀ e ∈ l, e.order.size ≤ maxLen) : Calls Try.prog 27 #[.slice a l.length cap] w (Tell (rightE l) w) := by
  have H := Lib.hid h
  have hc := h.cap
  have hlm := h.len
  unfold maxLen at hlm
  clear h
  go_enter Try.func27, Try.ntmps27
  go_wp2_with fail
  go_loopw [3, 8] (fun s3 i wr => ∃ k : Nat, k ≤ l.length ∧ i = .int .i64 k ∧ s3 = .int .i64 (keyAt l k) ∧ Hid (rightE l = goodE (keyAt l k) (l.drop k)) ∧ Below w.heap.size w wr) (fun _ i _ => l.length - (intOf i).toNat)
  case atStart => exact ⟨0, Nat.zero_le _, rfl, rfl, Lib.hid (rightE_at l), Below.refl _ _⟩
  case round =>
    obtain ⟨k, hk, rfl, rfl, HG, hbw⟩ := hrel
    by_cases hlt : k < l.length
    · have HN := Lib.hid (HG.out.trans (goodE_step l k hlt))
      have hy := hs _ (List.getElem_mem hlt)
      have hkk : keyAt l (k + 1) = l[k].key := by simp [keyAt, hlt]
      obtain ⟨b, o, rfl, hb, ld, hrest⟩ := (H.out.below hbw).ef k hlt
      have R := Lib.hid (Row.new wr (efC l[k]) 27)
      have BW := Lib.hid (hbw.alloc hbw.size (.cells (efC l[k]) 27))
      have ld2 := ld_row R.out
      obtain ⟨c0, _⟩ := R.out.c
      have C := Lib.hid (fun w => refOne_any l[k] w hy)
      clear HG hrest
      generalize l[k] = y at *
      generalize keyAt l k = K at *
      go_wp2_with fail
      generalize wr.alloc (Obj.cells (efC y) 27) = W at *
      refine (C.out _).mono ?_
      rintro x w1 ⟨rfl, b1⟩
      have R1 := Lib.hid (R.out.below b1)
      have B1 := Lib.hid (BW.out.trans (b1.mono BW.out.size))
      obtain ⟨d0, _⟩ := R1.out.c
      clear c0 ld ld2 b1 R
      cases ho : oneB y with
      | false =>
        go_wp2_with fail
        go_ret
        exact ⟨by rw [HN.out, ho]; rfl, B1.out⟩
      | true =>
        cases hlk : decide (K < y.key) with
        | false =>
          have hle : y.key ≤ K := by simpa using hlk
          go_wp2_with fail
          go_ret
          exact ⟨by rw [HN.out, ho, hlk]; rfl, B1.out⟩
        | true =>
          have hle : ¬ y.key ≤ K := by simpa using hlk
          go_wp2_with fail
          go_roundw
          case rel => exact ⟨k + 1, hlt, by go_num, by rw [hkk], Lib.hid (by rw [HN.out, ho, hlk, Bool.true_and, Bool.true_and]), B1.out⟩
          case measure => simp [intOf]; omega
    · have HE := Lib.hid (show rightE l = true by rw [HG.out, List.drop_eq_nil_of_le (by omega)]; rfl)
      go_wp2_with fail
      go_ret
      exact ⟨by rw [HE.out]; rfl, hbw⟩

theorem refBackoff_any (n : Int) (w : World) : Calls Try.prog 23 #[.int .i64 n] w fun e w' => e = .returned (.int .i64 (backN n)) ∧ w = w' := by
  have HE : Hid (∀ k : Nat, k ≤ 6 → (k = 0 ∨ (k : Int) ≤ n) → (¬ (k : Int) < n ∨ k = 6) → backN n = ((2 ^ k : Nat) : Int)) := Lib.hid (fun k h1 h2 h3 => by
    unfold backN
    have : min n.toNat 6 = k := by omega
    rw [this]; simp)
  go_enter Try.func23, Try.ntmps23
  go_wp2_with fail
  go_loop [3, 4] (fun s3 s4 => ∃ (k p : Nat), k ≤ 6 ∧ (k = 0 ∨ (k : Int) ≤ n) ∧ s3 = .int .i64 p ∧ s4 = .int .i64 k ∧ p ≤ 64 ∧ (p < 64 ↔ k < 6) ∧ Hid (p = 2 ^ k)) (fun _ s4 => 6 - (intOf s4).toNat)
  case atStart => exact ⟨0, 1, by omega, .inl rfl, rfl, rfl, by omega, by omega, Lib.hid rfl⟩
  case round =>
    obtain ⟨k, p, hk, hkn, rfl, rfl, hp, hpk, HP⟩ := hrel
    by_cases h1 : (k : Int) < n
    · by_cases h2 : p < 64
      · have h6 := hpk.1 h2
        have HQ := Lib.hid (show 2 * p = 2 ^ (k + 1) by rw [HP.out, Nat.pow_succ]; omega)
        have h64 : (2 * p < 64 ↔ k + 1 < 6) ∧ 2 * p ≤ 64 := by
          rw [HQ.out]
          have : k = 0 ∨ k = 1 ∨ k = 2 ∨ k = 3 ∨ k = 4 ∨ k = 5 := by omega
          rcases this with rfl | rfl | rfl | rfl | rfl | rfl <;> decide
        obtain ⟨h65, h66⟩ := h64
        go_wp2_with fail
        go_round
        case rel => exact ⟨k + 1, 2 * p, by omega, .inr (by omega), by go_num, by go_num, h66, h65, HQ⟩
        case measure => simp [intOf]; omega
      · have h6 : k = 6 := by omega
        have HF := Lib.hid (HE.out k hk hkn (.inr h6))
        go_wp2_with fail
        go_ret
        exact ⟨by rw [HF.out, ← HP.out]; rfl, rfl⟩
    · have HF := Lib.hid (HE.out k hk hkn (.inl (by omega)))
      go_wp2_with fail
      go_ret
      exact ⟨by rw [HF.out, ← HP.out]; rfl, rfl⟩

end Go.Proofs.Ytciijkognhdddaa
