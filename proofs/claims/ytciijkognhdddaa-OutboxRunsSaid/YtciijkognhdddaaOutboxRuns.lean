/- OutboxRuns: the law returns true for any acts and any number: whatever is asked, sent and answered, all answers, and all that is left, are the document's; what was there ahead stays. It has no conditions. -/
import Derived.Test.YtciijkognhdddaaObAlive
import Derived.Test.YtciijkognhdddaaObSettle
import Derived.Test.YtciijkognhdddaaObSame
import Derived.Test.YtciijkognhdddaaObRef3
import Derived.Test.YtciijkognhdddaaObActs
import Derived.Deep.DeepCutAuto
import Derived.Deep.CutBlock
namespace Go.Proofs.Ytciijkognhdddaa
open Go.ChangeShapes Go.WideShapes Go.ChangeAt Go.RowKit

set_option maxRecDepth 100000
attribute [local go_sem ↓] ldEf stEf alEf bxEf eqEf bdEf bsEf ldAc stAc alAc
attribute [local go_sem] al_ef bx_ef st_new bd_ef bs_ef bs_ef0 al_ac stA_new

/-- Acts that came in; an outbox; all that was there stays. -/
structure RunI (w : World) (aa : Option Addr) (ca : Nat) (ls : List Ac) (a : Option Addr) (c : Nat) (L : List Ef) (W : World) : Prop where
  acts : SlP LA W aa ca ls
  sl : SlP LE W a c L
  low : Below w.heap.size w W
theorem RunI.below {w W W' : World} {aa : Option Addr} {ca : Nat} {ls : List Ac} {a : Option Addr} {c : Nat} {L : List Ef} (h : RunI w aa ca ls a c L W) (b : Below W.heap.size W W') : RunI w aa ca ls a c L W' := ⟨h.acts.below b, h.sl.below b, h.low.trans (b.mono h.low.size)⟩
/-- The act at hand in a variable; the outbox as it was. -/
structure RunJ (w : World) (aa : Option Addr) (ca : Nat) (ls : List Ac) (a : Option Addr) (c : Nat) (L : List Ef) (b : Option Addr) (d : Nat) (g : Nat) (x : Ac) (W : World) : Prop where
  run : RunI w aa ca ls a c L W
  was : SlP LE W b d L
  row : Row W g 35 (acC x)
theorem RunJ.below {w W W' : World} {aa : Option Addr} {ca : Nat} {ls : List Ac} {a : Option Addr} {c : Nat} {L : List Ef} {b : Option Addr} {d g : Nat} {x : Ac} (h : RunJ w aa ca ls a c L b d g x W) (k : Below W.heap.size W W') : RunJ w aa ca ls a c L b d g x W' := ⟨h.run.below k, h.was.below k, h.row.below k⟩
theorem right_size {l : List Ef} (h : rightE l = true) : ∀ y ∈ l, y.order.size ≤ maxLen := fun y hy => by
  obtain ⟨_, _, _, _, _, h6⟩ := oneB_of (((rightE_iff l).1 h).1 y hy)
  unfold maxLen; omega
theorem kept_add {l : List Ef} (e : Ef) : (addEN l e == 0) = true → rightE (addEV l e) = true ∧ (addEV l e).length ≤ l.length + 1 := by
  unfold addEN addEV
  cases h : rightE (l ++ [e]) with
  | false => simp
  | true => simp [h]
theorem kept_sent {l : List Ef} (hr : rightE l = true) (key now : Int) : (sentN l key now == 0) = true → rightE (sentV l key now) = true ∧ (sentV l key now).length ≤ l.length + 1 := by
  unfold sentN sentV
  cases h : ((findE l key).isSome && tickB now) with
  | false => simp
  | true =>
    rw [Bool.and_eq_true] at h
    intro _
    simp only [if_true]
    exact ⟨right_sent hr key h.2, by simp [sentOf]⟩
theorem kept_settle {l : List Ef} (hr : rightE l = true) (key : Int) : (settleN l key == 0) = true → rightE (settleV l key) = true ∧ (settleV l key).length ≤ l.length + 1 := by
  unfold settleN settleV findN
  cases h : (findE l key).isSome with
  | false => simp
  | true =>
    intro _
    simp only [if_true]
    refine ⟨right_rest hr key, ?_⟩
    have := List.length_filter_le (fun e => !hasK e key) l
    unfold restOf
    omega

set_option maxHeartbeats 16000000 in
theorem runs_walk (aa : Option Addr) (ca : Nat) (ls : List Ac) (now : Int) (w : World) (h : SlP LA w aa ca ls) (hs : ∀ x ∈ ls, x.ef.order.size ≤ maxLen) : Calls Try.prog 4 #[.slice aa ls.length ca, .int .i64 now] w (Tell true w) := by
  have HA := Lib.hid h
  have hca := h.cap
  have hlm := h.len
  unfold maxLen at hlm
  clear h
  have CB1 := Lib.hid (fun W => backoff_any now W)
  have CB2 := Lib.hid (fun W => refBackoff_any now W)
  generalize backN now = bk at *
  go_enter Try.func4, Try.ntmps4
  go_wp2_with fail
  refine (alive_any _).mono ?_
  rintro x W1 ⟨rfl, b1⟩
  by_cases hl : 100 < ls.length
  · have hl1 : (100 : Int) < (ls.length : Int) := by omega
    go_wp2_with fail
    go_ret
    exact ⟨rfl, b1⟩
  · have I0 : Hid (RunI w aa ca ls (some ⟨W1.heap.size, 0, none⟩) 0 [] (W1.alloc (.cells #[] 27))) := Lib.hid ⟨(HA.out.below b1).alloc _, SlP.nil _ _ _, b1.alloc b1.size _⟩
    clear b1
    go_wp2_with fail
    generalize W1.alloc (.cells #[] 27) = W2 at *
    go_loopw [5, 25] (fun s5 i wr => ∃ (k : Nat) (L : List Ef) (a : Option Addr) (c : Nat), k ≤ ls.length ∧ i = .int .i64 k ∧ s5 = .slice a L.length c ∧ Hid (rightE L = true) ∧ L.length ≤ k ∧ Hid (RunI w aa ca ls a c L wr)) (fun _ i _ => ls.length - (intOf i).toNat)
    case atStart => exact ⟨0, [], _, 0, Nat.zero_le _, rfl, rfl, Lib.hid rfl, by simp, I0⟩
    case round =>
      clear I0
      obtain ⟨k, L, a, c, hk, rfl, rfl, HR, hLk, I⟩ := hrel
      by_cases hlt : k < ls.length
      · obtain ⟨ba, oa, rfl, hba, lda⟩ := I.out.acts.ac k hlt
        have hsx := hs _ (List.getElem_mem hlt)
        have R0 := Lib.hid (Row.new wr (acC ls[k]) 35)
        have I1 := Lib.hid (I.out.below ((Below.refl wr.heap.size wr).alloc (Nat.le_refl _) (.cells (acC ls[k]) 35)))
        obtain ⟨c0, c1, c6, c7, le⟩ := R0.out.ac
        have hL2 : L.length ≤ 100 := by omega
        generalize ls[k] = x at *
        by_cases h60 : 60 < x.ef.order.size
        · have h61 : (60 : Int) < (x.ef.order.size : Int) := by omega
          go_wp2_with fail
          go_ret
          exact ⟨rfl, I1.out.low⟩
        · have h61 : ¬ (60 : Int) < (x.ef.order.size : Int) := by omega
          have hcL := I1.out.sl.cap
          have hl0 : ([] : List Ef).length + L.length ≤ 10000000 := by simp; omega
          have OZ : Hid (OwnS LE ((wr.alloc (.cells (acC x) 35)).alloc (.cells #[] 27)) (wr.heap.size + 1) (.slice (some ⟨wr.heap.size + 1, 0, none⟩) 0 0) []) := Lib.hid (by
            have := OwnS.fresh (L := LE) (wr.alloc (.cells (acC x) 35)) (wr.heap.size + 1) (by simp)
            rwa [show (wr.alloc (.cells (acC x) 35)).heap.size = wr.heap.size + 1 by simp] at this)
          go_wp2_with (at_builtin; go_must (refine wpList_append_sl LE_ok rfl _ _ rfl (wr.heap.size + 1) (.slice (some ⟨wr.heap.size + 1, 0, none⟩) 0 0) [] L rfl OZ.out a c rfl (I1.out.sl.alloc _) hl0 (by simp) ?_))
          rintro v8 w8 o8 g8
          have b8 : Below (wr.alloc (.cells (acC x) 35)).heap.size (wr.alloc (.cells (acC x) 35)) w8 := ((Below.refl _ _).alloc (Nat.le_refl _) _).grown g8 (by simp) (fun q hq => by have := OZ.out.row q hq; simpa using this)
          obtain ⟨a8, c8, rfl, s8⟩ := o8.sl
          have J8 : Hid (RunJ w (some ⟨ba, oa, none⟩) ca ls a c L a8 c8 wr.heap.size x w8) := Lib.hid ⟨I1.out.below b8, s8, R0.out.below b8⟩
          clear b8 o8 g8 s8 OZ I I1 R0 c0 c1 c6 c7 le lda hba hcL hl0
          obtain ⟨c0, c1, c6, c7, le⟩ := J8.out.row.ac
          generalize wr.heap.size = g at *
          go_upto_block 2 with fail
          go_cut [9, 10, 11, 12] (fun s9 s10 s11 s12 wx => ∃ (V : List Ef) (N : Int) (a9 : Option Addr) (c9 : Nat) (a11 : Option Addr) (c11 : Nat), s9 = .slice a9 V.length c9 ∧ s10 = .int .i64 N ∧ s11 = .slice a11 V.length c11 ∧ s12 = .int .i64 N ∧ Hid (SlP LE wx a9 c9 V) ∧ Hid (SlP LE wx a11 c11 V) ∧ Hid ((N == 0) = true → rightE V = true ∧ V.length ≤ L.length + 1) ∧ Hid (RunJ w (some ⟨ba, oa, none⟩) ca ls a c L a8 c8 g x wx))
          case first =>
            cases t0 : (x.kind == 0) with
            | true =>
              have C1 : Hid (∀ W, RunJ w (some ⟨ba, oa, none⟩) ca ls a c L a8 c8 g x W → Calls Try.prog 9 #[.slice a L.length c, efV x.ef] W (OwnSE LE (addEV L x.ef) (addEN L x.ef) W)) := Lib.hid (fun W hW => by
                have := add_any a c L x.ef W hW.run.sl hsx (by omega)
                rwa [(addF_of HR.out x.ef).1, (addF_of HR.out x.ef).2] at this)
              have C2 : Hid (∀ W, RunJ w (some ⟨ba, oa, none⟩) ca ls a c L a8 c8 g x W → Calls Try.prog 14 #[.slice a L.length c, efV x.ef] W (OwnSE LE (addEV L x.ef) (addEN L x.ef) W)) := Lib.hid (fun W hW => refAdd_any a c L x.ef W hW.run.sl (right_size HR.out) hsx (by omega))
              have HK := Lib.hid (kept_add (l := L) x.ef)
              go_wp2_with fail
              refine (C1.out _ J8.out).mono ?_
              rintro e w9 ⟨v9, rfl, o9, b9⟩
              obtain ⟨a9, c9, rfl, s9⟩ := o9.sl
              have J9 := Lib.hid (J8.out.below b9)
              have S9 := Lib.hid s9
              clear o9 b9 s9 c0 c1 c6 c7 le C1 J8
              obtain ⟨c0, c1, c6, c7, le⟩ := J9.out.row.ac
              go_wp2_with fail
              refine (C2.out _ J9.out).mono ?_
              rintro e w10 ⟨v10, rfl, o10, b10⟩
              obtain ⟨a10, c10, rfl, s10⟩ := o10.sl
              have J10 := Lib.hid (J9.out.below b10)
              have S10 := Lib.hid s10
              have T10 := Lib.hid (S9.out.below b10)
              clear o10 b10 s10 C2
              go_wp2_with fail
              go_meet
              exact ⟨_, _, a9, c9, a10, c10, rfl, rfl, rfl, rfl, T10, S10, HK, J10⟩
            | false =>
              cases t1 : (x.kind == 1) with
              | true =>
                have C1 : Hid (∀ W, RunJ w (some ⟨ba, oa, none⟩) ca ls a c L a8 c8 g x W → Calls Try.prog 15 #[.slice a L.length c, .int .i64 x.ef.key, .int .i64 x.now] W (OwnSE LE (sentV L x.ef.key x.now) (sentN L x.ef.key x.now) W)) := Lib.hid (fun W hW => sent_any a c L x.ef.key x.now W hW.run.sl HR.out (by omega))
                have C2 : Hid (∀ W, RunJ w (some ⟨ba, oa, none⟩) ca ls a c L a8 c8 g x W → Calls Try.prog 16 #[.slice a L.length c, .int .i64 x.ef.key, .int .i64 x.now] W (OwnSE LE (sentV L x.ef.key x.now) (sentN L x.ef.key x.now) W)) := Lib.hid (fun W hW => refSent_any a c L x.ef.key x.now W hW.run.sl HR.out (by omega))
                have HK := Lib.hid (kept_sent HR.out x.ef.key x.now)
                go_wp2_with fail
                refine (C1.out _ J8.out).mono ?_
                rintro e w9 ⟨v9, rfl, o9, b9⟩
                obtain ⟨a9, c9, rfl, s9⟩ := o9.sl
                have J9 := Lib.hid (J8.out.below b9)
                have S9 := Lib.hid s9
                clear o9 b9 s9 c0 c1 c6 c7 le C1 J8
                obtain ⟨c0, c1, c6, c7, le⟩ := J9.out.row.ac
                go_wp2_with fail
                refine (C2.out _ J9.out).mono ?_
                rintro e w10 ⟨v10, rfl, o10, b10⟩
                obtain ⟨a10, c10, rfl, s10⟩ := o10.sl
                have J10 := Lib.hid (J9.out.below b10)
                have S10 := Lib.hid s10
                have T10 := Lib.hid (S9.out.below b10)
                clear o10 b10 s10 C2
                go_wp2_with fail
                go_meet
                exact ⟨_, _, a9, c9, a10, c10, rfl, rfl, rfl, rfl, T10, S10, HK, J10⟩
              | false =>
                cases t2 : (x.kind == 2) with
                | true =>
                  have C1 : Hid (∀ W, RunJ w (some ⟨ba, oa, none⟩) ca ls a c L a8 c8 g x W → Calls Try.prog 10 #[.slice a L.length c, .int .i64 x.ef.key] W (OwnSE LE (settleV L x.ef.key) (settleN L x.ef.key) W)) := Lib.hid (fun W hW => settle_any a c L x.ef.key W hW.run.sl HR.out (by omega))
                  have C2 : Hid (∀ W, RunJ w (some ⟨ba, oa, none⟩) ca ls a c L a8 c8 g x W → Calls Try.prog 17 #[.slice a L.length c, .int .i64 x.ef.key] W (OwnSE LE (settleV L x.ef.key) (settleN L x.ef.key) W)) := Lib.hid (fun W hW => refSettle_any a c L x.ef.key W hW.run.sl (by omega))
                  have HK := Lib.hid (kept_settle HR.out x.ef.key)
                  go_wp2_with fail
                  refine (C1.out _ J8.out).mono ?_
                  rintro e w9 ⟨v9, rfl, o9, b9⟩
                  obtain ⟨a9, c9, rfl, s9⟩ := o9.sl
                  have J9 := Lib.hid (J8.out.below b9)
                  have S9 := Lib.hid s9
                  clear o9 b9 s9 c0 c1 c6 c7 le C1 J8
                  obtain ⟨c0, c1, c6, c7, le⟩ := J9.out.row.ac
                  go_wp2_with fail
                  refine (C2.out _ J9.out).mono ?_
                  rintro e w10 ⟨v10, rfl, o10, b10⟩
                  obtain ⟨a10, c10, rfl, s10⟩ := o10.sl
                  have J10 := Lib.hid (J9.out.below b10)
                  have S10 := Lib.hid s10
                  have T10 := Lib.hid (S9.out.below b10)
                  clear o10 b10 s10 C2
                  go_wp2_with fail
                  go_meet
                  exact ⟨_, _, a9, c9, a10, c10, rfl, rfl, rfl, rfl, T10, S10, HK, J10⟩
                | false =>
                  have C1 : Hid (∀ W, RunJ w (some ⟨ba, oa, none⟩) ca ls a c L a8 c8 g x W → Calls Try.prog 11 #[.slice a L.length c, .int .i64 x.ef.key] W (FindP (findV L x.ef.key) (findN L x.ef.key) W)) := Lib.hid (fun W hW => find_any a c L x.ef.key W hW.run.sl HR.out (by omega))
                  have C2 : Hid (∀ W, RunJ w (some ⟨ba, oa, none⟩) ca ls a c L a8 c8 g x W → Calls Try.prog 18 #[.slice a L.length c, .int .i64 x.ef.key] W (FindP (findV L x.ef.key) (findN L x.ef.key) W)) := Lib.hid (fun W hW => refFind_any a c L x.ef.key W hW.run.sl)
                  have HK := Lib.hid (fun (_ : ((0 : Int) == 0) = true) => show rightE L = true ∧ L.length ≤ L.length + 1 from ⟨HR.out, by omega⟩)
                  generalize findV L x.ef.key = fv at *
                  generalize findN L x.ef.key = fn at *
                  have ne : ∀ W a b, EqX .neq 27 a b (efV fv) (efV fv) W = .ok (.value (.bool false)) W := fun W a b => by
                    have := ne_ef W fv fv a b
                    rwa [eqB_refl] at this
                  go_wp2_with fail
                  refine (C1.out _ J8.out).mono ?_
                  rintro e w9 ⟨rfl, b9⟩
                  have J9 := Lib.hid (J8.out.below b9)
                  have J9b := Lib.hid (J9.out.below ((Below.refl w9.heap.size w9).alloc (Nat.le_refl _) (.cells (efC fv) 27)))
                  have R9 := Lib.hid (Row.new w9 (efC fv) 27)
                  clear b9 c0 c1 c6 c7 le C1 J8 J9
                  obtain ⟨c0, c1, c6, c7, le⟩ := J9b.out.row.ac
                  go_wp2_with fail
                  generalize w9.alloc (.cells (efC fv) 27) = W9 at *
                  refine (C2.out _ J9b.out).mono ?_
                  rintro e w10 ⟨rfl, b10⟩
                  have J10 := Lib.hid (J9b.out.below b10)
                  have B10 := (Below.refl w10.heap.size w10).alloc (Nat.le_refl _) (.cells (efC fv) 27)
                  have J11 := Lib.hid (J10.out.below B10)
                  have ld1 := ld_row ((R9.out.below b10).below B10)
                  have ld2 := ld_row (Row.new w10 (efC fv) 27)
                  clear b10 C2 c0 c1 c6 c7 le B10
                  go_wp2_with fail
                  go_meet
                  exact ⟨L, 0, a, c, a, c, rfl, rfl, rfl, rfl, Lib.hid J11.out.run.sl, Lib.hid J11.out.run.sl, HK, J11⟩
          case rest =>
            obtain ⟨V, N, a9, c9, a11, c11, rfl, rfl, rfl, rfl, S9, S11, HK, JX⟩ := hcut
            clear J8 c0 c1 c6 c7 le
            have C12 := Lib.hid (refSame_any a9 a11 c9 c11 V V wc S9.out S11.out)
            rw [sameE_self] at C12
            go_wp2_with fail
            refine C12.out.mono ?_
            rintro e w12 ⟨rfl, b12⟩
            have J12 := Lib.hid (JX.out.below b12)
            have S12 := Lib.hid (S9.out.below b12)
            have C13 := Lib.hid (refSame_any a a8 c c8 L L w12 J12.out.run.sl J12.out.was)
            rw [sameE_self] at C13
            clear C12 b12 S9 S11 JX
            go_wp2_with fail
            refine C13.out.mono ?_
            rintro e w13 ⟨rfl, b13⟩
            have K := Lib.hid (J12.out.below b13).run
            have S13 := Lib.hid (S12.out.below b13)
            clear C13 b13 S12 J12
            cases hN : (N == 0) with
            | false =>
              clear HK S13
              have CR := Lib.hid (obRight_any a c L _ K.out.sl (right_size HR.out))
              rw [HR.out] at CR
              go_wp2_with fail
              refine CR.out.mono ?_
              rintro e w14 ⟨rfl, b14⟩
              have K14 := Lib.hid (K.out.below b14)
              have C15 := Lib.hid (due_any a c L now w14 K14.out.sl (by omega))
              clear CR b14
              go_wp2_with fail
              refine C15.out.mono ?_
              rintro e w15 ⟨v15, rfl, o15, b15⟩
              obtain ⟨a15, c15, rfl, s15⟩ := o15.sl
              have K15 := Lib.hid (K14.out.below b15)
              have S15 := Lib.hid s15
              have C16 := Lib.hid (refDue_any a c L now w15 K15.out.sl (by omega))
              clear C15 o15 b15 s15 K14
              go_wp2_with fail
              refine C16.out.mono ?_
              rintro e w16 ⟨v16, rfl, o16, b16⟩
              obtain ⟨a16, c16, rfl, s16⟩ := o16.sl
              have K16 := Lib.hid (K15.out.below b16)
              have C17 := Lib.hid (refSame_any a15 a16 c15 c16 (dueE L now) (dueE L now) w16 (S15.out.below b16) s16)
              rw [sameE_self] at C17
              clear C16 o16 b16 s16 K15 S15
              go_wp2_with fail
              refine C17.out.mono ?_
              rintro e w17 ⟨rfl, b17⟩
              have K17 := Lib.hid (K16.out.below b17)
              clear C17 b17 K16
              go_wp2_with fail
              refine (CB1.out _).mono ?_
              rintro e w18 ⟨rfl, rfl⟩
              go_wp2_with fail
              refine (CB2.out _).mono ?_
              rintro e w18 ⟨rfl, rfl⟩
              go_wp2_with fail
              go_roundw
              case rel => exact ⟨k + 1, L, a, c, hlt, by go_num, rfl, Lib.hid HR.out, by omega, K17⟩
              case measure => simp [intOf]; omega
            | true =>
              have HV := Lib.hid (HK.out hN)
              have hVl : V.length ≤ 100 := by have := HV.out.2; omega
              have hVk : V.length ≤ k + 1 := by have := HV.out.2; omega
              have K : Hid (RunI w (some ⟨ba, oa, none⟩) ca ls a9 c9 V w13) := Lib.hid ⟨K.out.acts, S13.out, K.out.low⟩
              clear HK S13
              have CR := Lib.hid (obRight_any a9 c9 V _ K.out.sl (right_size HV.out.1))
              rw [HV.out.1] at CR
              go_wp2_with fail
              refine CR.out.mono ?_
              rintro e w14 ⟨rfl, b14⟩
              have K14 := Lib.hid (K.out.below b14)
              have C15 := Lib.hid (due_any a9 c9 V now w14 K14.out.sl (by omega))
              clear CR b14
              go_wp2_with fail
              refine C15.out.mono ?_
              rintro e w15 ⟨v15, rfl, o15, b15⟩
              obtain ⟨a15, c15, rfl, s15⟩ := o15.sl
              have K15 := Lib.hid (K14.out.below b15)
              have S15 := Lib.hid s15
              have C16 := Lib.hid (refDue_any a9 c9 V now w15 K15.out.sl (by omega))
              clear C15 o15 b15 s15 K14
              go_wp2_with fail
              refine C16.out.mono ?_
              rintro e w16 ⟨v16, rfl, o16, b16⟩
              obtain ⟨a16, c16, rfl, s16⟩ := o16.sl
              have K16 := Lib.hid (K15.out.below b16)
              have C17 := Lib.hid (refSame_any a15 a16 c15 c16 (dueE V now) (dueE V now) w16 (S15.out.below b16) s16)
              rw [sameE_self] at C17
              clear C16 o16 b16 s16 K15 S15
              go_wp2_with fail
              refine C17.out.mono ?_
              rintro e w17 ⟨rfl, b17⟩
              have K17 := Lib.hid (K16.out.below b17)
              clear C17 b17 K16
              go_wp2_with fail
              refine (CB1.out _).mono ?_
              rintro e w18 ⟨rfl, rfl⟩
              go_wp2_with fail
              refine (CB2.out _).mono ?_
              rintro e w18 ⟨rfl, rfl⟩
              go_wp2_with fail
              go_roundw
              case rel => exact ⟨k + 1, V, a9, c9, hlt, by go_num, rfl, Lib.hid HV.out.1, hVk, K17⟩
              case measure => simp [intOf]; omega
      · go_wp2_with fail
        go_ret
        exact ⟨rfl, I.out.low⟩



set_option maxRecDepth 100000 in
theorem outboxRuns_lifted (os : Os) (started : os.Started) (H : Type) (enc : TypeId × Value → H) :
    ReturnsInHanded {} Try.checked os 4 .any (Rows.outboxRunsSpec.pre6 enc Try.prog Try.f4 Rows.outboxRunsRow.domain false) (Rows.outboxRunsSpec.post enc Try.prog Try.f4 false true false false) := by
  refine returnsInHanded_of_change (C := Try.checked) own started (by kernel_rfl) Try.func4
    (ChangeSpec.witness6 (enc := enc) (C := Try.checked) false ⟨#[], #[.slice none 0 0, .int .i64 0], []⟩ 8 (by kernel_rfl) (by kernel_rfl) (by kernel_rfl) (by kernel_rfl)) ?_
  intro W base args ds gs before hval0 hW _ _
  have hval : ∀ (j : Nat) t v, Try.f4.params[j]? = some t → args[j]? = some v → Value.okWide Try.prog W .any base t v := hval0
  have hW' := hW
  obtain ⟨p, q, hA0, hV, rfl, _, _⟩ := hW
  have hA : DataW.TrodAll enc Try.prog W 0 (fun _ => true) true Try.f4.params.toList args.toList ds p := hA0
  rw [Try.params4] at hA hval
  obtain ⟨v0, vs0, d0, ds0, p0, q_0, hargs, rfl, rfl, h0, r0⟩ := trodAll_cons hA
  obtain ⟨v1, vs1, d1, ds1, p1, q_1, rfl, rfl, rfl, h1, r1⟩ := trodAll_cons r0
  obtain ⟨rfl, rfl, rfl⟩ := trodAll_nil r1
  obtain rfl : args = #[v0, v1] := by cases args; simp_all
  obtain ⟨rfl, rfl⟩ := trodVars_none hV
  clear hA0 hval0
  simp only [List.append_nil] at hW'
  obtain ⟨q0, cap0, l0, rfl, hS0, hm0⟩ := acts_of_trod (hval 0 33 v0 rfl rfl) h0
  have hlt0 : ∀ x ∈ p0, x.block < W.heap.size := fun x hx => by simpa using hW'.lt x (by simpa using (by simp [hx]))
  obtain ⟨a1, rfl, rfl, rfl, w1⟩ := open_int Try.underlying2 (hval 1 2 v1 rfl rfl) h1
  refine (runs_walk q0 cap0 l0 a1 W hS0 hm0).mono fun e W' ⟨he, hb⟩ => ?_
  subst he
  have hT : DataW.TrodAll enc Try.prog W' 0 (fun b => decide (b < W.heap.size)) true _ _ _ _ := (trodAll_cons_mk (Below.trod laidOut (by kernel_rfl) (of_decide_eq_true (by kernel_rfl)) h0 hb hlt0) (trodAll_cons_mk (shut_int Try.underlying2 w1) trodAll_mk0))
  simp only [List.append_nil] at hT
  exact ⟨_, rfl, _, _, _, [], p0, [], hW', trodAll_mk1 (shut_bool Try.underlying4 _), hT, rfl, hb.frame _, fun h => by cases h⟩

theorem outboxRuns_holds : Rows.OutboxRunsSaid :=
  OpenClaim.holds_of_wide 4 Try.f4 rfl rfl rfl rfl rfl rfl rfl ⟨rfl, rfl, rfl, rfl, rfl⟩ rfl rfl rfl rfl rfl (by kernel_rfl) Try.func4 (by kernel_rfl)
    (of_decide_eq_true (by kernel_rfl)) (by unfold Func.isWrapper; first | (rw [if_pos (by decide +kernel)]; kernel_rfl) | (rw [if_neg (by decide +kernel)]; exact ⟨rfl, rfl⟩))
    (fun os started H enc _ => outboxRuns_lifted os started H enc)
#print axioms outboxRuns_holds


end Go.Proofs.Ytciijkognhdddaa
