/- OutboxWaits: the law returns true for any effect and any number: one that is sent whenever it is due is due later each time, never by more than 64 ticks; it is there till it is answered. It has no conditions. -/
import Derived.Test.YtciijkognhdddaaObAlive
import Derived.Test.YtciijkognhdddaaObSettle
import Derived.Test.YtciijkognhdddaaObArgs
namespace Go.Proofs.Ytciijkognhdddaa
open Go.ChangeShapes Go.WideShapes Go.ChangeAt Go.RowKit

set_option maxRecDepth 100000
attribute [local go_sem ↓] ldEf stEf alEf bxEf eqEf bdEf bsEf
attribute [local go_sem] al_ef bx_ef st_new bd_ef bs_ef bs_ef0

theorem due_single (x : Ef) (now : Int) : dueE [x] now = if decide (x.due ≤ now) then [x] else [] := by simp [dueE, List.filter_cons]
theorem find_single (x : Ef) : findE [x] x.key = some x := by simp [findE, hasK]
theorem sent_single (x : Ef) {now : Int} (hn : tickB now = true) : sentV [x] x.key now = [bumpE now x] ∧ sentN [x] x.key now = 0 := by
  have := sentVN_some (l := [x]) (key := x.key) (now := now) (by rw [find_single]; rfl) hn
  rw [this.1, this.2]
  exact ⟨by simp [sentOf, hasK], rfl⟩
theorem settle_single (x : Ef) : settleV [x] x.key = [] ∧ settleN [x] x.key = 0 := by
  have := settleVN_some (l := [x]) (key := x.key) (by rw [find_single]; rfl)
  rw [this.1, this.2]
  exact ⟨by simp [restOf, hasK], rfl⟩

/-- One that is asked, in a row of its own; what it was at the beginning, in a variable. -/
structure WaitI (w : World) (e x : Ef) (a : Option Addr) (c : Nat) (W : World) : Prop where
  row : Row W w.heap.size 27 (efC e)
  sl : SlP LE W a c [x]
  low : Below w.heap.size w W
theorem WaitI.below {w W W' : World} {e x : Ef} {a : Option Addr} {c : Nat} (h : WaitI w e x a c W) (b : Below W.heap.size W W') : WaitI w e x a c W' := ⟨h.row.below b, h.sl.below b, h.low.trans (b.mono h.low.size)⟩

set_option maxHeartbeats 8000000 in
theorem waits_walk (e : Ef) (times : Int) (w : World) (hs : e.order.size ≤ maxLen) : Calls Try.prog 6 #[efV e, .int .i64 times] w (Tell true w) := by
  have R0 := Lib.hid (Row.new w (efC e) 27)
  have L0 := Lib.hid ((Below.refl w.heap.size w).alloc (Nat.le_refl _) (Obj.cells (efC e) 27))
  go_enter Try.func6, Try.ntmps6
  go_wp2_with fail
  generalize w.alloc (Obj.cells (efC e) 27) = W0 at *
  refine (alive_any _).mono ?_
  rintro x W1 ⟨rfl, b1⟩
  have R1 := Lib.hid (R0.out.below b1)
  have L1 := Lib.hid (L0.out.trans (b1.mono L0.out.size))
  have ld := ld_row R1.out
  have CA : Hid (Calls Try.prog 9 #[.slice none 0 0, efV e] W1 (OwnSE LE (addFV [] e) (addFN [] e) W1)) := Lib.hid (add_any none 0 [] e W1 (SlP.nil _ _ _) hs (by simp))
  clear R0 L0 b1
  cases hf : followB [] e with
  | false =>
    rw [show addFV [] e = [] by simp [addFV, hf], show addFN [] e = 131 by simp [addFN, hf]] at CA
    go_wp2_with fail
    refine CA.out.mono ?_
    rintro x w2 ⟨v2, rfl, o2, b2⟩
    obtain ⟨a2, c2, rfl⟩ := o2.shape
    have L2 := Lib.hid (L1.out.trans (b2.mono L1.out.size))
    go_wp2_with fail
    go_ret
    exact ⟨rfl, L2.out⟩
  | true =>
    rw [show addFV [] e = [e] by simp [addFV, hf], show addFN [] e = 0 by simp [addFN, hf]] at CA
    have hr : rightE [e] = true := by
      have := follow_add (l := []) rfl e
      rw [hf] at this
      exact this.symm
    have ho := oneB_of (((rightE_iff [e]).1 hr).1 e (by simp))
    go_wp2_with fail
    refine CA.out.mono ?_
    rintro x w2 ⟨v2, rfl, o2, b2⟩
    obtain ⟨a2, c2, rfl, s2⟩ := o2.sl
    have K2 : Hid (WaitI w e e a2 c2 w2) := Lib.hid ⟨R1.out.below b2, s2, L1.out.trans (b2.mono L1.out.size)⟩
    obtain ⟨k0, _, k2, _⟩ := K2.out.row.c
    obtain ⟨_, ⟨hd1, hd2⟩, _⟩ := ho
    have HR := Lib.hid hr
    clear o2 s2 b2 R1 L1 ld CA hf hr
    by_cases ht : 200 < times
    · go_wp2_with fail
      go_ret
      exact ⟨rfl, K2.out.low⟩
    · by_cases hd : 549755813888 < e.due
      · go_wp2_with fail
        go_ret
        exact ⟨rfl, K2.out.low⟩
      · go_wp2_with fail
        go_loopw [5, 7, 8] (fun s5 s7 s8 wr => ∃ (k : Nat) (x : Ef) (a : Option Addr) (c : Nat), k ≤ 200 ∧ s5 = .slice a 1 c ∧ s7 = .int .i64 x.due ∧ s8 = .int .i64 k ∧ x.key = e.key ∧ Hid (rightE [x] = true) ∧ x.due ≤ 549755813888 + 64 * k ∧ Hid (WaitI w e x a c wr)) (fun _ _ s8 _ => times.toNat - (intOf s8).toNat)
        case atStart => exact ⟨0, e, a2, c2, by omega, rfl, rfl, rfl, rfl, HR, by omega, K2⟩
        case round =>
          clear k0 k2 K2 HR hd hd1 hd2
          obtain ⟨k, x, a, c, hk, rfl, rfl, rfl, hxk, HR, hxd, K⟩ := hrel
          obtain ⟨k0, _, k2, _⟩ := K.out.row.c
          obtain ⟨_, ⟨hd1, hd2⟩, _⟩ := oneB_of (((rightE_iff [x]).1 HR.out).1 x (by simp))
          by_cases hlt : (k : Int) < times
          · have C1 : Hid (∀ W, WaitI w e x a c W → Calls Try.prog 21 #[.slice a 1 c, .int .i64 (x.due - 1)] W (OwnSs LE [] W)) := Lib.hid (fun W h => by
              have := due_any a c [x] (x.due - 1) W h.sl (by simp)
              rwa [due_single, show decide (x.due ≤ x.due - 1) = false by simp; omega] at this)
            have C2 : Hid (∀ W, WaitI w e x a c W → Calls Try.prog 21 #[.slice a 1 c, .int .i64 x.due] W (OwnSs LE [x] W)) := Lib.hid (fun W h => by
              have := due_any a c [x] x.due W h.sl (by simp)
              rwa [due_single, show decide (x.due ≤ x.due) = true by simp] at this)
            have hn : tickB x.due = true := (tickB_iff _).2 ⟨hd1, hd2⟩
            have C3 : Hid (∀ W, WaitI w e x a c W → Calls Try.prog 15 #[.slice a 1 c, .int .i64 e.key, .int .i64 x.due] W (OwnSE LE [bumpE x.due x] 0 W)) := Lib.hid (fun W h => by
              have := sent_any a c [x] x.key x.due W h.sl HR.out (by simp)
              rwa [(sent_single x hn).1, (sent_single x hn).2, hxk] at this)
            have HR2 := Lib.hid (show rightE [bumpE x.due x] = true by
              have := right_sent HR.out x.key hn
              simpa [sentOf, hasK] using this)
            obtain ⟨m1, m2⟩ := backN_in x.tries
            have HD : (bumpE x.due x).due = x.due + backN x.tries := by
              simp only [bumpE]
              rw [if_neg (by omega)]
            have HK : (bumpE x.due x).key = e.key := hxk
            have hwm : IntKind.i64.wrap (x.due - 1) = x.due - 1 := by rw [IntKind.wrap_i64]; omega
            have hwp : IntKind.i64.wrap (x.due + 64) = x.due + 64 := by rw [IntKind.wrap_i64]; omega
            go_wp2_with fail
            refine (C1.out _ K.out).mono ?_
            rintro y w3 ⟨v3, rfl, o3, b3⟩
            obtain ⟨a3, c3, rfl⟩ := o3.shape
            have K3 := Lib.hid (K.out.below b3)
            clear o3 b3
            go_wp2_with fail
            refine (C2.out _ K3.out).mono ?_
            rintro y w4 ⟨v4, rfl, o4, b4⟩
            obtain ⟨a4, c4, rfl⟩ := o4.shape
            have K4 := Lib.hid (K3.out.below b4)
            clear o4 b4 k0 k2
            obtain ⟨k0, _, k2, _⟩ := K4.out.row.c
            go_wp2_with fail
            refine (C3.out _ K4.out).mono ?_
            rintro y w5 ⟨v5, rfl, o5, b5⟩
            obtain ⟨g5, c5, rfl, _, hc5, q1, q2⟩ := o5.first
            have K5 : Hid (WaitI w e (bumpE x.due x) (some ⟨g5, 0, none⟩) c5 w5) := Lib.hid ⟨K4.out.row.below b5, by
              obtain ⟨a', c', e', s'⟩ := o5.sl
              injection e' with e1 e2 e3
              subst e1 e3
              exact s', K4.out.low.trans (b5.mono K4.out.low.size)⟩
            rw [HD] at q1
            have hz1 : ¬ x.due + backN x.tries ≤ x.due := by omega
            have hz2 : ¬ x.due + 64 < x.due + backN x.tries := by omega
            clear o5 b5 k0 k2 q2
            generalize bumpE x.due x = z at *
            generalize backN x.tries = B at *
            go_wp2_with fail
            go_roundw
            case rel => exact ⟨k + 1, z, _, c5, by omega, rfl, by rw [HD], by go_num, HK, HR2, by omega, K5⟩
            case measure => simp [intOf]; omega
          · have C4 : Hid (∀ W, WaitI w e x a c W → Calls Try.prog 10 #[.slice a 1 c, .int .i64 e.key] W (OwnSE LE [] 0 W)) := Lib.hid (fun W h => by
              have := settle_any a c [x] x.key W h.sl HR.out (by simp)
              rwa [(settle_single x).1, (settle_single x).2, hxk] at this)
            have C5 : Hid (∀ a c W, SlP LE W a c [] → Calls Try.prog 10 #[.slice a 0 c, .int .i64 e.key] W (OwnSE LE [] 131 W)) := Lib.hid (fun a c W h => settle_any a c [] e.key W h rfl (by simp))
            go_wp2_with fail
            refine (C4.out _ K.out).mono ?_
            rintro y w3 ⟨v3, rfl, o3, b3⟩
            obtain ⟨a3, c3, rfl, s3⟩ := o3.sl
            have K3 := Lib.hid (K.out.below b3)
            clear o3 b3 k0 k2
            obtain ⟨k0, _, k2, _⟩ := K3.out.row.c
            go_wp2_with fail
            refine (C5.out _ _ _ s3).mono ?_
            rintro y w4 ⟨v4, rfl, o4, b4⟩
            obtain ⟨a4, c4, rfl⟩ := o4.shape
            have K4 := Lib.hid (K3.out.below b4)
            clear o4 b4
            go_wp2_with fail
            go_ret
            exact ⟨rfl, K4.out.low⟩



set_option maxRecDepth 100000 in
theorem outboxWaits_lifted (os : Os) (started : os.Started) (H : Type) (enc : TypeId × Value → H) :
    ReturnsInHanded {} Try.checked os 6 .any (Rows.outboxWaitsSpec.pre6 enc Try.prog Try.f6 Rows.outboxWaitsRow.domain false) (Rows.outboxWaitsSpec.post enc Try.prog Try.f6 false true false false) := by
  refine returnsInHanded_of_change (C := Try.checked) own started (by kernel_rfl) Try.func6
    (ChangeSpec.witness6 (enc := enc) (C := Try.checked) false ⟨#[], #[.agg #[.int .i64 0, .int .i64 0, .int .i64 0, .int .i64 0, .int .i64 0, .string ⟨#[]⟩], .int .i64 0], []⟩ 8 (by kernel_rfl) (by kernel_rfl) (by kernel_rfl) (by kernel_rfl)) ?_
  intro W base args ds gs before hval0 hW _ _
  have hval : ∀ (j : Nat) t v, Try.f6.params[j]? = some t → args[j]? = some v → Value.okWide Try.prog W .any base t v := hval0
  have hW' := hW
  obtain ⟨p, q, hA0, hV, rfl, _, _⟩ := hW
  have hA : DataW.TrodAll enc Try.prog W 0 (fun _ => true) true Try.f6.params.toList args.toList ds p := hA0
  rw [Try.params6] at hA hval
  obtain ⟨v0, vs0, d0, ds0, p0, q_0, hargs, rfl, rfl, h0, r0⟩ := trodAll_cons hA
  obtain ⟨v1, vs1, d1, ds1, p1, q_1, rfl, rfl, rfl, h1, r1⟩ := trodAll_cons r0
  obtain ⟨rfl, rfl, rfl⟩ := trodAll_nil r1
  obtain rfl : args = #[v0, v1] := by cases args; simp_all
  obtain ⟨rfl, rfl⟩ := trodVars_none hV
  clear hA0 hval0
  simp only [List.append_nil] at hW'
  obtain ⟨e0, rfl, hs0⟩ := effect_of_trod (hval 0 27 v0 rfl rfl) h0
  have hlt0 : ∀ x ∈ p0, x.block < W.heap.size := fun x hx => by simpa using hW'.lt x (by simpa using (by simp [hx]))
  obtain ⟨a1, rfl, rfl, rfl, w1⟩ := open_int Try.underlying3 (hval 1 3 v1 rfl rfl) h1
  refine (waits_walk e0 a1 W hs0).mono fun e W' ⟨he, hb⟩ => ?_
  subst he
  have hT : DataW.TrodAll enc Try.prog W' 0 (fun b => decide (b < W.heap.size)) true _ _ _ _ := (trodAll_cons_mk (Below.trod laidOut (by kernel_rfl) (of_decide_eq_true (by kernel_rfl)) h0 hb hlt0) (trodAll_cons_mk (shut_int Try.underlying3 w1) trodAll_mk0))
  simp only [List.append_nil] at hT
  exact ⟨_, rfl, _, _, _, [], p0, [], hW', trodAll_mk1 (shut_bool Try.underlying4 _), hT, rfl, hb.frame _, fun h => by cases h⟩

theorem outboxWaits_holds : Rows.OutboxWaitsSaid :=
  OpenClaim.holds_of_wide 6 Try.f6 rfl rfl rfl rfl rfl rfl rfl ⟨rfl, rfl, rfl, rfl, rfl⟩ rfl rfl rfl rfl rfl (by kernel_rfl) Try.func6 (by kernel_rfl)
    (of_decide_eq_true (by kernel_rfl)) (by unfold Func.isWrapper; first | (rw [if_pos (by decide +kernel)]; kernel_rfl) | (rw [if_neg (by decide +kernel)]; exact ⟨rfl, rfl⟩))
    (fun os started H enc _ => outboxWaits_lifted os started H enc)
#print axioms outboxWaits_holds


end Go.Proofs.Ytciijkognhdddaa
