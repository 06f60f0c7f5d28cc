/- OutboxBack: the law returns true for any effects, any effect and any number: what is added and settled leaves the rest as it was; what is sent changes nobody else's. It has no conditions. -/
import Derived.Test.YtciijkognhdddaaObAlive
import Derived.Test.YtciijkognhdddaaObSettle
import Derived.Test.YtciijkognhdddaaObSame
import Derived.Test.YtciijkognhdddaaObArgs
namespace Go.Proofs.Ytciijkognhdddaa
open Go.ChangeShapes Go.WideShapes Go.ChangeAt Go.RowKit

set_option maxRecDepth 100000
attribute [local go_sem ↓] ldEf stEf alEf bxEf eqEf bdEf bsEf
attribute [local go_sem] al_ef bx_ef st_new bd_ef bs_ef bs_ef0

theorem addE_yes {l : List Ef} {e : Ef} (h : rightE (l ++ [e]) = true) : addEV l e = l ++ [e] ∧ addEN l e = 0 := by simp [addEV, addEN, h]
theorem addE_no {l : List Ef} {e : Ef} (h : rightE (l ++ [e]) = false) : addEV l e = [] ∧ addEN l e = 131 := by simp [addEV, addEN, h]
theorem settle_back {l : List Ef} {e : Ef} (h : rightE (l ++ [e]) = true) : settleV (l ++ [e]) e.key = l ∧ settleN (l ++ [e]) e.key = 0 := by
  obtain ⟨h1, h2⟩ := settleVN_some (l := l ++ [e]) (key := e.key) (by rw [find_add h]; rfl)
  rw [h1, h2, rest_add h]
  exact ⟨rfl, rfl⟩
theorem sent_yes {l : List Ef} {e : Ef} {now : Int} (h : rightE (l ++ [e]) = true) (hn : tickB now = true) : sentV (l ++ [e]) e.key now = l ++ [bumpE now e] ∧ sentN (l ++ [e]) e.key now = 0 := by
  obtain ⟨h1, h2⟩ := sentVN_some (l := l ++ [e]) (key := e.key) (now := now) (by rw [find_add h]; rfl) hn
  rw [h1, h2, sent_add h]
  exact ⟨rfl, rfl⟩
theorem found_bump {l : List Ef} {e : Ef} {now : Int} (h : rightE (l ++ [e]) = true) (hn : tickB now = true) : rightE (l ++ [bumpE now e]) = true ∧ findV (l ++ [bumpE now e]) e.key = bumpE now e ∧ findN (l ++ [bumpE now e]) e.key = 0 := by
  have h1 : rightE (l ++ [bumpE now e]) = true := by
    have := right_sent h e.key hn
    rwa [sent_add h] at this
  have h2 := find_add h1
  exact ⟨h1, findVN_some (key := e.key) h2⟩

set_option maxHeartbeats 8000000 in
theorem back_walk (a : Option Addr) (cap : Nat) (l : List Ef) (e : Ef) (now : Int) (w : World) (h : SlP LE w a cap l) (hm : ∀ y ∈ l, y.order.size ≤ maxLen) (hs : e.order.size ≤ maxLen) : Calls Try.prog 7 #[.slice a l.length cap, efV e, .int .i64 now] w (Tell true w) := by
  have K0 := Lib.hid (AddI.begin h e)
  have hlm := h.len
  unfold maxLen at hlm
  clear h
  go_enter Try.func7, Try.ntmps7
  go_wp2_with fail
  generalize w.alloc (Obj.cells (efC e) 27) = W0 at *
  refine (alive_any _).mono ?_
  rintro x W1 ⟨rfl, b1⟩
  have K1 := Lib.hid (K0.out.below b1)
  clear K0 b1
  by_cases hl : 60 < l.length
  · have hl1 : (60 : Int) < (l.length : Int) := by omega
    go_wp2_with fail
    go_ret
    exact ⟨rfl, K1.out.low⟩
  · have CR := Lib.hid (obRight_any a cap l W1 K1.out.sl hm)
    go_wp2_with fail
    refine CR.out.mono ?_
    rintro x W2 ⟨rfl, b2⟩
    have K2 := Lib.hid (K1.out.below b2)
    clear K1 b2 CR
    cases hr : rightE l with
    | false =>
      go_wp2_with fail
      go_ret
      exact ⟨rfl, K2.out.low⟩
    | true =>
      have ld := ld_row K2.out.row
      have CA := Lib.hid (add_any a cap l e W2 K2.out.sl hs (by omega))
      rw [(addF_of hr e).1, (addF_of hr e).2] at CA
      cases hra : rightE (l ++ [e]) with
      | false =>
        rw [(addE_no hra).1, (addE_no hra).2] at CA
        go_wp2_with fail
        refine CA.out.mono ?_
        rintro x W3 ⟨v3, rfl, o3, b3⟩
        obtain ⟨a3, c3, rfl⟩ := o3.shape
        have K3 := Lib.hid (K2.out.below b3)
        clear o3 b3
        go_wp2_with fail
        go_ret
        exact ⟨rfl, K3.out.low⟩
      | true =>
        rw [(addE_yes hra).1, (addE_yes hra).2] at CA
        go_wp2_with fail
        refine CA.out.mono ?_
        rintro x W3 ⟨v3, rfl, o3, b3⟩
        obtain ⟨a3, c3, rfl, s3⟩ := o3.sl
        have K3 := Lib.hid (K2.out.below b3)
        have S3 := Lib.hid s3
        have hml : (l ++ [e]).length ≤ 1000000 := by simp; omega
        have hle : (l ++ [e]).length = l.length + 1 := by simp
        have C4 : Hid (Calls Try.prog 10 #[.slice a3 (l.length + 1) c3, .int .i64 e.key] W3 (OwnSE LE l 0 W3)) := Lib.hid (by
          have := settle_any a3 c3 (l ++ [e]) e.key W3 s3 hra hml
          rwa [(settle_back hra).1, (settle_back hra).2, hle] at this)
        have C5 : Hid (∀ W, SlP LE W a3 c3 (l ++ [e]) → Calls Try.prog 15 #[.slice a3 (l.length + 1) c3, .int .i64 e.key, .int .i64 now] W (OwnSE LE (sentV (l ++ [e]) e.key now) (sentN (l ++ [e]) e.key now) W)) := Lib.hid (fun W hW => by
          have := sent_any a3 c3 (l ++ [e]) e.key now W hW hra hml
          rwa [hle] at this)
        obtain ⟨k0, k1, k2, k3, k4, k5⟩ := K3.out.row.c
        clear o3 b3 s3 ld CA K2
        go_wp2_with fail
        refine C4.out.mono ?_
        rintro x W4 ⟨v4, rfl, o4, b4⟩
        obtain ⟨a4, c4, rfl, s4⟩ := o4.sl
        have K4 := Lib.hid (K3.out.below b4)
        have S4 := Lib.hid s4
        have T4 := Lib.hid (S3.out.below b4)
        clear o4 b4 s4 k0 k1 k2 k3 k4 k5 C4 K3 S3
        obtain ⟨k0, k1, k2, k3, k4, k5⟩ := K4.out.row.c
        cases ht : tickB now with
        | false =>
          have C5 := Lib.hid (C5.out _ T4.out)
          rw [(sentVN_none (.inr ht)).1, (sentVN_none (.inr ht)).2] at C5
          go_wp2_with fail
          refine C5.out.mono ?_
          rintro x W5 ⟨v5, rfl, o5, b5⟩
          obtain ⟨a5, c5, rfl⟩ := o5.shape
          have K5 := Lib.hid (K4.out.below b5)
          have CS := Lib.hid (refSame_any a4 a c4 cap l l W5 (S4.out.below b5) K5.out.sl)
          rw [sameE_self] at CS
          clear o5 b5
          go_wp2_with fail
          refine CS.out.mono ?_
          rintro x W6 ⟨rfl, b6⟩
          have K6 := Lib.hid (K5.out.below b6)
          go_wp2_with fail
          go_ret
          exact ⟨rfl, K6.out.low⟩
        | true =>
          have C5 := Lib.hid (C5.out _ T4.out)
          rw [(sent_yes hra ht).1, (sent_yes hra ht).2] at C5
          obtain ⟨hrb, hfv, hfn⟩ := found_bump hra ht
          have CF : Hid (∀ a c W, SlP LE W a c (l ++ [bumpE now e]) → Calls Try.prog 11 #[.slice a (l.length + 1) c, .int .i64 e.key] W (FindP (bumpE now e) 0 W)) := Lib.hid (fun a c W hW => by
            have := find_any a c (l ++ [bumpE now e]) e.key W hW hrb (by simp; omega)
            rwa [hfv, hfn, show (l ++ [bumpE now e]).length = l.length + 1 by simp] at this)
          go_wp2_with fail
          refine C5.out.mono ?_
          rintro x W5 ⟨v5, rfl, o5, b5⟩
          obtain ⟨a5, c5, rfl, s5⟩ := o5.sl
          have K5 := Lib.hid (K4.out.below b5)
          have CS := Lib.hid (refSame_any a4 a c4 cap l l W5 (S4.out.below b5) K5.out.sl)
          have S5 := Lib.hid s5
          have hc5 := s5.cap
          rw [sameE_self] at CS
          clear o5 b5 s5 C5 hfv hfn hrb hra k0 k1 k2 k3 k4 k5
          have HB1 := Lib.hid (show (bumpE now e).key = e.key ∧ (bumpE now e).batch = e.batch ∧ (bumpE now e).kind = e.kind ∧ (bumpE now e).order = e.order from ⟨rfl, rfl, rfl, rfl⟩)
          go_wp2_with fail
          refine CS.out.mono ?_
          rintro x W6 ⟨rfl, b6⟩
          have K6 := Lib.hid (K5.out.below b6)
          have S6 := Lib.hid (S5.out.below b6)
          have hll : (l ++ [bumpE now e]).length = l.length + 1 := by simp
          clear b6 CS K5 S5 K4 S4 T4
          generalize bumpE now e = z at *
          rw [hll] at hc5
          have hc0 := K6.out.sl.cap
          go_wp2_with fail
          go_loopw [67] (fun i wr => ∃ k : Nat, k ≤ l.length ∧ i = .int .i64 k ∧ Hid (AddI w a cap l w.heap.size e wr) ∧ Hid (SlP LE wr a5 c5 (l ++ [z]))) (fun i _ => l.length - (intOf i).toNat)
          case atStart => exact ⟨0, Nat.zero_le _, rfl, K6, S6⟩
          case round =>
            clear K6 S6
            obtain ⟨k, hk, rfl, K, S⟩ := hrel
            by_cases hlt : k < l.length
            · have hlt2 : k < (l ++ [z]).length := by simp; omega
              have Kd := Lib.hid (K.out.drew)
              have Sd := Lib.hid (S.out.below (Below.refl _ _).drew)
              obtain ⟨b1, o1, rfl, q1, ld1, _⟩ := Kd.out.sl.ef k hlt
              obtain ⟨b2, o2, rfl, q2, ld2, hrest⟩ := Sd.out.ef k hlt2
              clear hrest
              rw [List.getElem_append_left hlt] at ld2
              have ne : ∀ W a b, EqX .neq 27 a b (efV l[k]) (efV l[k]) W = .ok (.value (.bool false)) W := fun W a b => by
                have := ne_ef W l[k] l[k] a b
                rwa [eqB_refl] at this
              clear hlt2
              generalize l[k] = x at *
              go_wp2_with fail
              go_region
              go_wp2_with fail
              go_roundw
              case rel => exact ⟨k + 1, hlt, by go_num, Kd, Sd⟩
              case measure => simp [intOf]; omega
            · have CF := Lib.hid (CF.out _ _ _ S.out)
              obtain ⟨k0, _⟩ := K.out.row.c
              go_wp2_with fail
              refine CF.out.mono ?_
              rintro x W7 ⟨rfl, b7⟩
              have K7 := Lib.hid (K.out.below b7)
              have K8 := Lib.hid (K7.out.alloc (.cells (efC z) 27))
              obtain ⟨m0, m1, m2, m3, m4, m5⟩ := K8.out.row.c
              obtain ⟨n0, n1, n2, n3, n4, n5⟩ := (Row.new W7 (efC z) 27).c
              obtain ⟨z0, z1, z3, z5⟩ := HB1.out
              rw [z0] at n0
              rw [z1] at n1
              rw [z3] at n3
              rw [z5] at n5
              clear b7 k0 CF z0 z1 z3 z5
              go_wp2_with fail
              go_ret
              exact ⟨by simp, K8.out.low⟩



set_option maxRecDepth 100000 in
theorem outboxBack_lifted (os : Os) (started : os.Started) (H : Type) (enc : TypeId × Value → H) :
    ReturnsInHanded {} Try.checked os 7 .any (Rows.outboxBackSpec.pre6 enc Try.prog Try.f7 Rows.outboxBackRow.domain false) (Rows.outboxBackSpec.post enc Try.prog Try.f7 false true false false) := by
  refine returnsInHanded_of_change (C := Try.checked) own started (by kernel_rfl) Try.func7
    (ChangeSpec.witness6 (enc := enc) (C := Try.checked) false ⟨#[], #[.slice none 0 0, .agg #[.int .i64 0, .int .i64 0, .int .i64 0, .int .i64 0, .int .i64 0, .string ⟨#[]⟩], .int .i64 0], []⟩ 8 (by kernel_rfl) (by kernel_rfl) (by kernel_rfl) (by kernel_rfl)) ?_
  intro W base args ds gs before hval0 hW _ _
  have hval : ∀ (j : Nat) t v, Try.f7.params[j]? = some t → args[j]? = some v → Value.okWide Try.prog W .any base t v := hval0
  have hW' := hW
  obtain ⟨p, q, hA0, hV, rfl, _, _⟩ := hW
  have hA : DataW.TrodAll enc Try.prog W 0 (fun _ => true) true Try.f7.params.toList args.toList ds p := hA0
  rw [Try.params7] at hA hval
  obtain ⟨v0, vs0, d0, ds0, p0, q_0, hargs, rfl, rfl, h0, r0⟩ := trodAll_cons hA
  obtain ⟨v1, vs1, d1, ds1, p1, q_1, rfl, rfl, rfl, h1, r1⟩ := trodAll_cons r0
  obtain ⟨v2, vs2, d2, ds2, p2, q_2, rfl, rfl, rfl, h2, r2⟩ := trodAll_cons r1
  obtain ⟨rfl, rfl, rfl⟩ := trodAll_nil r2
  obtain rfl : args = #[v0, v1, v2] := by cases args; simp_all
  obtain ⟨rfl, rfl⟩ := trodVars_none hV
  clear hA0 hval0
  simp only [List.append_nil] at hW'
  obtain ⟨q0, cap0, l0, rfl, hS0, hm0⟩ := effs_of_trod (hval 0 22 v0 rfl rfl) h0
  have hlt0 : ∀ x ∈ p0, x.block < W.heap.size := fun x hx => by simpa using hW'.lt x (by simpa using (by simp [hx]))
  obtain ⟨e1, rfl, hs1⟩ := effect_of_trod (hval 1 27 v1 rfl rfl) h1
  have hlt1 : ∀ x ∈ p1, x.block < W.heap.size := fun x hx => by simpa using hW'.lt x (by simpa using (by simp [hx]))
  obtain ⟨a2, rfl, rfl, rfl, w2⟩ := open_int Try.underlying2 (hval 2 2 v2 rfl rfl) h2
  refine (back_walk q0 cap0 l0 e1 a2 W hS0 hm0 hs1).mono fun e W' ⟨he, hb⟩ => ?_
  subst he
  have hT : DataW.TrodAll enc Try.prog W' 0 (fun b => decide (b < W.heap.size)) true _ _ _ _ := (trodAll_cons_mk (Below.trod laidOut (by kernel_rfl) (of_decide_eq_true (by kernel_rfl)) h0 hb hlt0) (trodAll_cons_mk (Below.trod laidOut (by kernel_rfl) (of_decide_eq_true (by kernel_rfl)) h1 hb hlt1) (trodAll_cons_mk (shut_int Try.underlying2 w2) trodAll_mk0)))
  simp only [List.append_nil] at hT
  exact ⟨_, rfl, _, _, _, [], p0 ++ (p1), [], hW', trodAll_mk1 (shut_bool Try.underlying4 _), hT, rfl, hb.frame _, fun h => by cases h⟩

theorem outboxBack_holds : Rows.OutboxBackSaid :=
  OpenClaim.holds_of_wide 7 Try.f7 rfl rfl rfl rfl rfl rfl rfl ⟨rfl, rfl, rfl, rfl, rfl⟩ rfl rfl rfl rfl rfl (by kernel_rfl) Try.func7 (by kernel_rfl)
    (of_decide_eq_true (by kernel_rfl)) (by unfold Func.isWrapper; first | (rw [if_pos (by decide +kernel)]; kernel_rfl) | (rw [if_neg (by decide +kernel)]; exact ⟨rfl, rfl⟩))
    (fun os started H enc _ => outboxBack_lifted os started H enc)
#print axioms outboxBack_holds


end Go.Proofs.Ytciijkognhdddaa
