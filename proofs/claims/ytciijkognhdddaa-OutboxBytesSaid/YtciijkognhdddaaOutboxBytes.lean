/- OutboxBytes: the law returns true for any effects and any bytes: an outbox has the document's bytes, and is taken back from them; from any bytes the outbox that is taken, or none, is the document's. It has no conditions. -/
import Derived.Test.YtciijkognhdddaaObAlive
import Derived.Test.YtciijkognhdddaaObSame
import Derived.Test.YtciijkognhdddaaObRTake
import Derived.Test.YtciijkognhdddaaObRefB
import Derived.Test.YtciijkognhdddaaObArgs
import Derived.Deep.DeepCutAuto
import Derived.Deep.RegionLaw
namespace Go.Proofs.Ytciijkognhdddaa
open Go.ChangeShapes Go.WideShapes Go.ChangeAt Go.RowKit

set_option maxRecDepth 100000
attribute [local go_sem ↓] ldEf stEf alEf bxEf eqEf bdEf bsEf
attribute [local go_sem] al_ef bx_ef st_new bd_ef bs_ef bs_ef0

/-- Effects that came in; all that was there stays. -/
structure OneI (w : World) (a : Option Addr) (cap : Nat) (l : List Ef) (W : World) : Prop where
  sl : SlP LE W a cap l
  low : Below w.heap.size w W
theorem OneI.below {w W W' : World} {a : Option Addr} {cap : Nat} {l : List Ef} (h : OneI w a cap l W) (b : Below W.heap.size W W') : OneI w a cap l W' := ⟨h.sl.below b, h.low.trans (b.mono h.low.size)⟩
theorem OneI.at {w W : World} {a : Option Addr} {cap : Nat} {l : List Ef} (h : SlP LE w a cap l) (b : Below w.heap.size w W) : OneI w a cap l W := ⟨h.below b, b⟩
/-- Behind its bytes: they, a Reader that is through, and what was taken. -/
structure FinI (w : World) (a : Option Addr) (cap : Nat) (l : List Ef) (b : Option Addr) (c : Nat) (z : List Nat) (g : Nat) (a2 : Option Addr) (c2 : Nat) (W : World) : Prop where
  one : OneI w a cap l W
  by_ : BytesP W b c z
  rd : RdS W g (some [])
  bk : SlP LE W a2 c2 l
theorem FinI.below {w W W' : World} {a : Option Addr} {cap : Nat} {l : List Ef} {b : Option Addr} {c : Nat} {z : List Nat} {g : Nat} {a2 : Option Addr} {c2 : Nat} (h : FinI w a cap l b c z g a2 c2 W) (k : Below W.heap.size W W') : FinI w a cap l b c z g a2 c2 W' := ⟨h.one.below k, h.by_.below k, h.rd.below k, h.bk.below k⟩

set_option maxHeartbeats 2000000 in
theorem bytes_walk (a q : Option Addr) (ca qc : Nat) (l : List Ef) (bs : List Nat) (w : World) (h1 : SlP LE w a ca l) (hm : ∀ y ∈ l, y.order.size ≤ maxLen) (h2 : BytesP w q qc bs) (_hm : bs.length ≤ maxLen) : Calls Try.prog 5 #[.slice a l.length ca, .slice q bs.length qc] w (Tell true w) := by
  have H := Lib.hid h1
  have HL := Lib.hid h2
  have hll := h2.len
  have hlm := h1.len
  unfold maxLen at hlm
  clear h1 h2
  go_enter Try.func5, Try.ntmps5
  go_wp2_with fail
  refine (alive_any _).mono ?_
  rintro x W1 ⟨rfl, b1⟩
  have K1 : Hid (OneI w a ca l W1) := Lib.hid (OneI.at H.out b1)
  clear b1
  by_cases hl : 60 < l.length
  · have hl1 : (60 : Int) < (l.length : Int) := by omega
    go_wp2_with fail
    go_ret
    exact ⟨rfl, K1.out.low⟩
  · have hl1 : ¬ (60 : Int) < (l.length : Int) := by omega
    by_cases hn : 2000 < bs.length
    · have hn1 : (2000 : Int) < (bs.length : Int) := by omega
      go_wp2_with fail
      go_ret
      exact ⟨rfl, K1.out.low⟩
    · have hn1 : ¬ (2000 : Int) < (bs.length : Int) := by omega
      have H1 := Lib.hid (HL.out.below K1.out.low)
      have CN := Lib.hid (new_any q qc bs W1 H1.out (by omega))
      go_wp2_with fail
      refine CN.out.mono ?_
      rintro e w2 ⟨g, rfl, r2, b2, hg2⟩
      have R2 : Hid (RdS w2 g (some bs)) := Lib.hid (.inr ⟨bs, 0, rfl, r2⟩)
      have B2 := Lib.hid b2
      have CT := Lib.hid (obTake_any w2 g (some bs) R2.out (fun b hb => by injection hb with hb; subst hb; omega))
      unfold TakeP at CT
      clear CN r2 b2
      go_wp2_with fail
      refine CT.out.mono ?_
      rintro e w3 ⟨v3, rfl, o3, _, b3⟩
      obtain ⟨a3, c3, rfl, s3⟩ := o3.sl
      have B3 := Lib.hid (B2.out.trans (b3.below hg2 B2.out.size))
      have K3 := Lib.hid (K1.out.below B3.out)
      have S3 := Lib.hid s3
      have H3 := Lib.hid (HL.out.below K3.out.low)
      clear CT R2 B2 o3 b3 s3 B3 K1 H1
      have S4 : Hid (SnS (w3.alloc (.cells #[.slice q bs.length qc, .bool true] 55)) w3.heap.size (some bs)) := Lib.hid ⟨q, qc, bs, true, heap_alloc_new _ _, H3.out.below ((Below.refl _ _).alloc (Nat.le_refl _) _), fun hne b o e => (by obtain ⟨b', o', e', hlt, _⟩ := H3.out.cell hne; rw [e] at e'; injection e' with e'; injection e' with e1 _; omega), rfl⟩
      have CU := Lib.hid (refTake_any13 _ _ (some bs) S4.out)
      unfold TakeD at CU
      go_wp2_with fail
      refine CU.out.mono ?_
      rintro e w5 ⟨v5, rfl, o5, b5⟩
      obtain ⟨a5, c5, rfl, s5⟩ := o5.sl
      have B5 := Lib.hid (((Below.refl w3.heap.size w3).alloc (Nat.le_refl _) (.cells #[.slice q bs.length qc, .bool true] 55)).trans (b5.below (Nat.le_refl _) (by simp)))
      have K5 := Lib.hid (K3.out.below B5.out)
      have CS := Lib.hid (refSame_any a3 a5 c3 c5 (boxV (some bs)) (boxV (some bs)) w5 (S3.out.below B5.out) s5)
      rw [sameE_self] at CS
      clear CU S4 H3 o5 b5 B5 K3 S3 s5
      generalize (boxO (some bs)).isSome = v at *
      generalize boxV (some bs) = bo at *
      go_wp2_with fail
      refine CS.out.mono ?_
      rintro e w6 ⟨rfl, b6⟩
      have K6 := Lib.hid (K5.out.below b6)
      have CR := Lib.hid (obRight_any a ca l w6 K6.out.sl hm)
      clear CS b6 K5
      go_wp2_with fail
      refine CR.out.mono ?_
      rintro e w7 ⟨rfl, b7⟩
      have K7 := Lib.hid (K6.out.below b7)
      have CR2 := Lib.hid (refObRight_any a ca l w7 K7.out.sl hm)
      clear CR b7 K6
      go_wp2_with fail
      refine CR2.out.mono ?_
      rintro e w8 ⟨rfl, b8⟩
      have K8 := Lib.hid (K7.out.below b8)
      have CR3 := Lib.hid (refObRight_any a ca l w8 K8.out.sl hm)
      clear CR2 b8 K7
      have hrr : (rightE l != rightE l) = false := by simp
      go_wp2_with fail
      refine CR3.out.mono ?_
      rintro e w9 ⟨rfl, b9⟩
      have K9 := Lib.hid (K8.out.below b9)
      clear CR3 b9 K8 hrr
      cases hr : rightE l with
      | false =>
        go_wp2_with fail
        go_ret
        exact ⟨rfl, K9.out.low⟩
      | true =>
        have HLn := Lib.hid (boxL_len hr (by omega))
        have HY := Lib.hid (boxL_bytes l)
        have HP : Hid (boxV (some (boxL l)) = l ∧ (boxO (some (boxL l))).isSome = true ∧ (boxS (some (boxL l))).2 = some []) := Lib.hid (by
          have e := boxS_put hr (by omega) []
          have e2 := boxO_put hr (by omega) []
          rw [List.append_nil] at e e2
          unfold boxV
          rw [e, e2]
          exact ⟨rfl, rfl, rfl⟩)
        have CP : Hid (Calls Try.prog 28 #[.slice none 0 0, .slice a l.length ca] w9 (OwnPost (boxL l) w9)) := Lib.hid (obPut_any none a 0 ca [] l w9 (BytesP.nil _ _ _) K9.out.sl hr (by simp) (by omega))
        have CB := Lib.hid (fun W (h : OneI w a ca l W) => refBytes_any13 a ca l W h.sl hr (by omega))
        generalize boxL l = y at *
        have hyl := HLn.out
        clear hr
        go_wp2_with fail
        refine CP.out.mono ?_
        rintro e w10 ⟨v10, rfl, o10, b10⟩
        obtain ⟨a10, c10, e10, h10⟩ := o10.bytes HY.out
        subst e10
        have K10 := Lib.hid (K9.out.below b10)
        have H10 := Lib.hid h10
        have CN := Lib.hid (new_any a10 c10 y w10 h10 (by omega))
        clear CP o10 b10 h10 K9
        go_wp2_with fail
        refine CN.out.mono ?_
        rintro e w13 ⟨g2, rfl, r13, b13, hg13⟩
        have R13 : Hid (RdS w13 g2 (some y)) := Lib.hid (.inr ⟨y, 0, rfl, r13⟩)
        have B13 := Lib.hid b13
        have CT := Lib.hid (obTake_any w13 g2 (some y) R13.out (fun b hb => by injection hb with hb; subst hb; omega))
        unfold TakeP at CT
        rw [HP.out.1, HP.out.2.1, HP.out.2.2] at CT
        clear CN r13 b13
        go_wp2_with fail
        refine CT.out.mono ?_
        rintro e w14 ⟨v14, rfl, o14, r14, b14⟩
        obtain ⟨a14, c14, rfl, s14⟩ := o14.sl
        have B14 := Lib.hid (B13.out.trans (b14.below hg13 B13.out.size))
        have F14 : Hid (FinI w a ca l a10 c10 y g2 a14 c14 w14) := Lib.hid ⟨K10.out.below B14.out, H10.out.below B14.out, r14 (by simp), s14⟩
        clear CT R13 B13 B14 o14 r14 b14 s14 K10 H10
        obtain ⟨sy, hsy⟩ : ∃ s, strB y = s := ⟨_, rfl⟩
        have ty : ∀ W a c, BytesP W a c y → (convert 47 9 (.slice a y.length c)).run Try.prog W = .ok (.string sy) W := fun W a c h => by rw [← hsy]; exact run_text h
        clear hsy
        have kd := F14.out.below (Below.refl w14.heap.size w14).drew
        have hd := kd.by_
        have CB2 := Lib.hid (fun W (h : FinI w a ca l a10 c10 y g2 a14 c14 W) => CB.out W h.one)
        have CD := Lib.hid (fun W (h : FinI w a ca l a10 c10 y g2 a14 c14 W) => show Calls Try.prog 30 #[.pointer (some ⟨g2, 0, none⟩)] W (BoolB true W) from rd_done_any W g2 (some []) h.rd)
        have CS := Lib.hid (fun W (h : FinI w a ca l a10 c10 y g2 a14 c14 W) => show Calls Try.prog 19 #[.slice a14 l.length c14, .slice a l.length ca] W (Tell true W) from by
          have := refSame_any a14 a c14 ca l l W h.bk h.one.sl
          rwa [sameE_self] at this)
        clear CB
        go_wp2_with fail
        go_cut [4] (fun v wx => v = .bool true ∧ Hid (Below w.heap.size w wx))
        case first =>
          --@
          go_region_law (first
            | ((try go_simp); go_at_call 29; refine (CB2.out _ kd).mono ?_; rintro e w11 ⟨v11, rfl, o11, b11⟩; obtain ⟨a11, c11, e11, h11⟩ := o11.bytes HY.out; subst e11; have k11 := kd.below b11; have h12 := hd.below b11)
            | ((try go_simp); go_at_call 30; refine (CD.out _ k11).mono ?_; rintro e w12 ⟨rfl, b12⟩; have k12 := k11.below b12)
            | ((try go_simp); go_at_call 19; refine (CS.out _ k12).mono ?_; rintro e w15 ⟨rfl, b15⟩; have k15 := k12.below b15))
          all_goals
            go_wp2_with fail
            go_meet
            exact ⟨by simp, Lib.hid k15.one.low⟩
        case rest =>
          obtain ⟨rfl, L⟩ := hcut
          go_wp2_with fail
          go_ret
          exact ⟨rfl, L.out⟩



set_option maxRecDepth 100000 in
theorem outboxBytes_lifted (os : Os) (started : os.Started) (H : Type) (enc : TypeId × Value → H) :
    ReturnsInHanded {} Try.checked os 5 .any (Rows.outboxBytesSpec.pre6 enc Try.prog Try.f5 Rows.outboxBytesRow.domain false) (Rows.outboxBytesSpec.post enc Try.prog Try.f5 false true false false) := by
  refine returnsInHanded_of_change (C := Try.checked) own started (by kernel_rfl) Try.func5
    (ChangeSpec.witness6 (enc := enc) (C := Try.checked) false ⟨#[], #[.slice none 0 0, .slice none 0 0], []⟩ 8 (by kernel_rfl) (by kernel_rfl) (by kernel_rfl) (by kernel_rfl)) ?_
  intro W base args ds gs before hval0 hW _ _
  have hval : ∀ (j : Nat) t v, Try.f5.params[j]? = some t → args[j]? = some v → Value.okWide Try.prog W .any base t v := hval0
  have hW' := hW
  obtain ⟨p, q, hA0, hV, rfl, _, _⟩ := hW
  have hA : DataW.TrodAll enc Try.prog W 0 (fun _ => true) true Try.f5.params.toList args.toList ds p := hA0
  rw [Try.params5] at hA hval
  obtain ⟨v0, vs0, d0, ds0, p0, q_0, hargs, rfl, rfl, h0, r0⟩ := trodAll_cons hA
  obtain ⟨v1, vs1, d1, ds1, p1, q_1, rfl, rfl, rfl, h1, r1⟩ := trodAll_cons r0
  obtain ⟨rfl, rfl, rfl⟩ := trodAll_nil r1
  obtain rfl : args = #[v0, v1] := by cases args; simp_all
  obtain ⟨rfl, rfl⟩ := trodVars_none hV
  clear hA0 hval0
  simp only [List.append_nil] at hW'
  obtain ⟨q0, cap0, l0, rfl, hS0, hm0⟩ := effs_of_trod (hval 0 22 v0 rfl rfl) h0
  have hlt0 : ∀ x ∈ p0, x.block < W.heap.size := fun x hx => by simpa using hW'.lt x (by simpa using (by simp [hx]))
  obtain ⟨q1, cap1, l1, rfl, hS1, hm1⟩ := bytes_of_trod (hval 1 47 v1 rfl rfl) h1
  have hlt1 : ∀ x ∈ p1, x.block < W.heap.size := fun x hx => by simpa using hW'.lt x (by simpa using (by simp [hx]))
  refine (bytes_walk q0 q1 cap0 cap1 l0 l1 W hS0 hm0 hS1 hm1).mono fun e W' ⟨he, hb⟩ => ?_
  subst he
  have hT : DataW.TrodAll enc Try.prog W' 0 (fun b => decide (b < W.heap.size)) true _ _ _ _ := (trodAll_cons_mk (Below.trod laidOut (by kernel_rfl) (of_decide_eq_true (by kernel_rfl)) h0 hb hlt0) (trodAll_cons_mk (Below.trod laidOut (by kernel_rfl) (of_decide_eq_true (by kernel_rfl)) h1 hb hlt1) trodAll_mk0))
  simp only [List.append_nil] at hT
  exact ⟨_, rfl, _, _, _, [], p0 ++ (p1), [], hW', trodAll_mk1 (shut_bool Try.underlying4 _), hT, rfl, hb.frame _, fun h => by cases h⟩

theorem outboxBytes_holds : Rows.OutboxBytesSaid :=
  OpenClaim.holds_of_wide 5 Try.f5 rfl rfl rfl rfl rfl rfl rfl ⟨rfl, rfl, rfl, rfl, rfl⟩ rfl rfl rfl rfl rfl (by kernel_rfl) Try.func5 (by kernel_rfl)
    (of_decide_eq_true (by kernel_rfl)) (by unfold Func.isWrapper; first | (rw [if_pos (by decide +kernel)]; kernel_rfl) | (rw [if_neg (by decide +kernel)]; exact ⟨rfl, rfl⟩))
    (fun os started H enc _ => outboxBytes_lifted os started H enc)
#print axioms outboxBytes_holds


end Go.Proofs.Ytciijkognhdddaa
