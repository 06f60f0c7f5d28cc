/- When two effects are the same; the document's Same. -/
import Derived.Test.YtciijkognhdddaaObFindC
namespace Go.Proofs.Ytciijkognhdddaa
set_option maxRecDepth 100000
open Go.RowKit Go.ChangeShapes Go.WideShapes Go.ChangeAt
attribute [local go_sem ↓] ldEf stEf alEf bxEf eqEf bdEf bsEf
attribute [local go_sem] al_ef bx_ef st_new bd_ef bs_ef bs_ef0

theorem stoodEf : Try.prog.stoodInHeld 27 = false := by kernel_rfl
set_option maxHeartbeats 4000000 in
theorem run_eq_ef (w : World) (x y : Ef) : (Op.equalIn 10000 27 (efV x) (efV y)).run Try.prog w = .ok (eqB x y) w := by
  unfold efV
  rw [run_equalIn_struct w 9999 27 _ _ fieldsEf stoodEf]
  have hf : (Try.prog.fieldsOf 27).toList = (match Try.prog.underlying 27 with | some (.struct fs) => fs | _ => #[]).toList := rfl
  rw [hf, Try.underlying27]
  simp only [efC]
  unfold eqB
  cases h1 : x.key == y.key
  · go_simp
  · cases h2 : x.batch == y.batch
    · go_simp
    · cases h3 : x.due == y.due
      · go_simp
      · cases h4 : x.kind == y.kind
        · go_simp
        · cases h5 : x.tries == y.tries
          · go_simp
          · cases h6 : x.order.toList == y.order.toList
            · go_simp
            · go_simp
theorem ne_ef (w : World) (x y : Ef) (a b : Operand) : EqX .neq 27 a b (efV x) (efV y) w = .ok (.value (.bool (!(eqB x y)))) w := by
  have h := run_eq_ef w x y
  unfold efV at *
  simp only [EqX, Sem.run_bind, Sem.run_pure, Result.andThen_ok, run_eqGuard_agg w .neq 27 a b (efC x) (efC y) guardEf, run_neq_struct, h]
theorem eq_ef (w : World) (x y : Ef) (a b : Operand) : EqX .eql 27 a b (efV x) (efV y) w = .ok (.value (.bool (eqB x y))) w := by
  have h := run_eq_ef w x y
  unfold efV at *
  simp only [EqX, Sem.run_bind, Sem.run_pure, Result.andThen_ok, run_eqGuard_agg w .eql 27 a b (efC x) (efC y) guardEf, run_eql_struct, h]

def sameE : List Ef → List Ef → Bool
  | [], [] => true
  | x :: a, y :: b => eqB x y && sameE a b
  | _, _ => false
theorem sameE_iff : ∀ (a b : List Ef), sameE a b = true ↔ a = b
  | [], [] => by simp [sameE]
  | [], _ :: _ => by simp [sameE]
  | _ :: _, [] => by simp [sameE]
  | x :: a, y :: b => by
    simp only [sameE, Bool.and_eq_true, eqB_iff, sameE_iff a b, List.cons.injEq]
theorem sameE_self (a : List Ef) : sameE a a = true := (sameE_iff a a).2 rfl
theorem sameE_len {a b : List Ef} (h : a.length ≠ b.length) : sameE a b = false := by
  cases e : sameE a b with
  | false => rfl
  | true => exact absurd (congrArg List.length ((sameE_iff a b).1 e)) h
theorem sameE_step {a b : List Ef} {k : Nat} (h1 : k < a.length) (h2 : k < b.length) : sameE (a.drop k) (b.drop k) = (eqB a[k] b[k] && sameE (a.drop (k + 1)) (b.drop (k + 1))) := by
  rw [List.drop_eq_getElem_cons h1, List.drop_eq_getElem_cons h2, sameE]

set_option maxHeartbeats 4000000 in
theorem refSame_any (a b : Option Addr) (ca cb : Nat) (l m : List Ef) (w : World) (h1 : SlP LE w a ca l) (h2 : SlP LE w b cb m) : Calls Try.prog 19 #[.slice a l.length ca, .slice b m.length cb] w (Tell (sameE l m) w) := by
  have H1 := Lib.hid h1
  have H2 := Lib.hid h2
  have k1 := h1.cap
  have k2 := h2.cap
  have hlm := h1.len
  have hlm2 := h2.len
  unfold maxLen at hlm hlm2
  clear h1 h2
  by_cases hl : l.length = m.length
  · have hq : ((l.length : Int) != (m.length : Int)) = false := by rw [hl]; simp
    go_enter Try.func19, Try.ntmps19
    go_wp2_with fail
    go_loopw [13] (fun i wr => ∃ k : Nat, k ≤ l.length ∧ i = .int .i64 k ∧ Hid (sameE l m = sameE (l.drop k) (m.drop k)) ∧ Below w.heap.size w wr) (fun i _ => l.length - (intOf i).toNat)
    case atStart => exact ⟨0, Nat.zero_le _, rfl, Lib.hid rfl, Below.refl _ _⟩
    case round =>
      obtain ⟨k, hk, rfl, HS, hbw⟩ := hrel
      by_cases hlt : k < l.length
      · have hlt2 : k < m.length := by omega
        obtain ⟨b1, o1, rfl, q1, ld1, _⟩ := (H1.out.below hbw).ef k hlt
        obtain ⟨b2, o2, rfl, q2, ld2, _⟩ := (H2.out.below hbw).ef k hlt2
        have ld1d : LdX 27 (.pointer (some ⟨b1, o1 + k * 6, none⟩)) wr.drew = .ok (.value (efV l[k])) wr.drew := ((H1.out.below hbw).below ((Below.refl _ _).drew)).ef k hlt |>.elim fun b' h => h.elim fun o' h => by
          obtain ⟨e, _, h, _⟩ := h
          injection e with e
          injection e with e1 e2
          subst e1 e2
          exact h
        have ld2d : LdX 27 (.pointer (some ⟨b2, o2 + k * 6, none⟩)) wr.drew = .ok (.value (efV m[k])) wr.drew := ((H2.out.below hbw).below ((Below.refl _ _).drew)).ef k hlt2 |>.elim fun b' h => h.elim fun o' h => by
          obtain ⟨e, _, h, _⟩ := h
          injection e with e
          injection e with e1 e2
          subst e1 e2
          exact h
        have HN := Lib.hid (HS.out.trans (sameE_step hlt hlt2))
        have ne := fun W a b => ne_ef W l[k] m[k] a b
        have B2 := Lib.hid hbw.drew
        generalize l[k] = x at *
        generalize m[k] = y at *
        generalize hE : eqB x y = E at *
        go_wp2_with fail
        go_region
        cases E with
        | false =>
          go_wp2_with fail
          go_ret
          exact ⟨by rw [HN.out]; rfl, B2.out⟩
        | true =>
          go_wp2_with fail
          go_roundw
          case rel => exact ⟨k + 1, hlt, by go_num, Lib.hid (by rw [HN.out, Bool.true_and]), B2.out⟩
          case measure => simp [intOf]; omega
      · have HE := Lib.hid (show sameE l m = true by rw [HS.out, List.drop_eq_nil_of_le (by omega), List.drop_eq_nil_of_le (by omega)]; rfl)
        go_wp2_with fail
        go_ret
        exact ⟨by rw [HE.out]; rfl, hbw⟩
  · have hq : ((l.length : Int) != (m.length : Int)) = true := by simp; omega
    have HE := Lib.hid (sameE_len hl)
    go_enter Try.func19, Try.ntmps19
    go_wp2_with fail
    go_ret
    exact ⟨by rw [HE.out]; rfl, Below.refl _ _⟩

end Go.Proofs.Ytciijkognhdddaa
