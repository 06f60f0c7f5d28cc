/- StateCopies: the law returns true for any two states: whether they are the same is told as the document tells it; a copy is the same, and writing on it touches neither the state nor another copy. It has no conditions. -/
import Derived.Test.YtaghbfnikcldiaaStTo
import Derived.Test.YtaghbfnikcldiaaMgRight
import Derived.Test.YtaghbfnikcldiaaMgProg
import Derived.Deep.RegionHeld3
import Derived.Deep.DeepCutAuto
import Derived.SizedLaws
namespace Go.Proofs.Ytaghbfnikcldiaa
open Go.ChangeShapes Go.WideShapes Go.ChangeAt Go.RowKit

set_option maxRecDepth 100000
attribute [local go_sem ↓] ldOr stOr alOr bxOr bdOr ldBa stBa alBa bxBa bdBa ldSt stSt alSt bxSt bdSt ldEf stEf alEf bxEf eqEf bdEf bsEf ldGr bxGr eqGr ldCa bxCa eqCa
attribute [local go_sem] al_or bx_or st_ornew bd_or al_ba bx_ba st_banew bd_ba al_sta bx_sta st_any bd_sta al_ef bx_ef st_new bd_ef bs_ef bs_ef0 bx_gr ne_gr bx_ca ne_ca

/-- Two states in their variables. -/
structure OnAB (w : World) (r t : StR) (W : World) : Prop where
  on : OnI w r W
  two : Row W (w.heap.size + 1) 29 (stC t)
  st2 : StP W t
theorem OnAB.below {w W W' : World} {r t : StR} (h : OnAB w r t W) (b : Below W.heap.size W W') : OnAB w r t W' := ⟨h.on.below b, h.two.below b, h.st2.below b⟩
theorem OnAB.begin (w : World) (r t : StR) (h : StP w r) (h2 : StP w t) : OnAB w r t ((w.alloc (.cells (stC r) 29)).alloc (.cells (stC t) 29)) := by
  have b1 : Below w.heap.size w (w.alloc (.cells (stC r) 29)) := (Below.refl _ _).alloc (Nat.le_refl _) _
  have b2 : Below w.heap.size w ((w.alloc (.cells (stC r) 29)).alloc (.cells (stC t) 29)) := b1.alloc b1.size _
  refine ⟨(OnI.begin w r h).more _, ?_, h2.below b2⟩
  have := Row.new (w.alloc (.cells (stC r) 29)) (stC t) 29
  have e : (w.alloc (.cells (stC r) 29)).heap.size = w.heap.size + 1 := by show (w.heap.push _).size = _; rw [Array.size_push]
  rwa [e] at this

set_option maxHeartbeats 16000000 in
theorem copies_walk (HN : NewC) (HR : RightC) (HC : CopyC) (HE : SameC) (r t : StR) (w : World) (h : StP w r) (h2 : StP w t) (hz : ∀ x ∈ r.bats, ∀ s ∈ x.b.mem, s.size ≤ 140737488355328) : Calls Try.prog 6 #[stV r, stV t] w (Tell true w) := by
  have CV := Lib.hid (fun W => alive_of HN HR W)
  have I := Lib.hid (OnAB.begin w r t h h2)
  have HZ := Lib.hid hz
  have HWas := Lib.hid h
  have CG := Lib.hid great_any
  clear h h2 HN HR hz
  go_enter Try.func6, Try.ntmps6
  go_wp2_with fail
  generalize (w.alloc (.cells (stC r) 29)).alloc (.cells (stC t) 29) = W0 at *
  refine (CV.out _).mono ?_
  rintro e W1 ⟨rfl, b1⟩
  replace I := Lib.hid (I.out.below b1)
  clear CV b1
  have ld := ld_sta I.out.on.one
  have C1 := Lib.hid (CG.out r W1 I.out.on.st)
  go_wp2_with fail
  cases hg : greatB r with
  | true =>
    rw [hg] at C1
    refine C1.out.mono ?_
    rintro e W2 ⟨rfl, b2⟩
    have B2 := Lib.hid (I.out.below b2).on.low
    clear ld b2 C1 I
    go_wp2_with fail
    go_ret
    exact ⟨rfl, B2.out⟩
  | false =>
    rw [hg] at C1
    have HSm := Lib.hid (small_of hg)
    refine C1.out.mono ?_
    rintro e W2 ⟨rfl, b2⟩
    replace I := Lib.hid (I.out.below b2)
    clear ld b2 C1 hg
    have ld := ld_sta I.out.two
    have C2 := Lib.hid (CG.out t W2 I.out.st2)
    go_wp2_with fail
    cases hg : greatB t with
    | true =>
      rw [hg] at C2
      refine C2.out.mono ?_
      rintro e W3 ⟨rfl, b3⟩
      have B3 := Lib.hid (I.out.below b3).on.low
      clear ld b3 C2 I
      go_wp2_with fail
      go_ret
      exact ⟨rfl, B3.out⟩
    | false =>
      rw [hg] at C2
      refine C2.out.mono ?_
      rintro e W3 ⟨rfl, b3⟩
      replace I := Lib.hid (I.out.below b3)
      clear ld b3 C2 hg CG
      go_wp2_with fail
      have f1 : ∀ p : Far W3, LdX 29 (.pointer (some ⟨w.heap.size, 0, none⟩)) (farOf W3 p) = .ok (.value (stV r)) (farOf W3 p) := fun p => ld_sta (I.out.below (far_below W3 p)).on.one
      have f2 : ∀ p : Far W3, LdX 29 (.pointer (some ⟨w.heap.size + 1, 0, none⟩)) (farOf W3 p) = .ok (.value (stV t)) (farOf W3 p) := fun p => ld_sta (I.out.below (far_below W3 p)).two
      have C2 := Lib.hid (fun p : Far W3 => HE r t _ (I.out.below (far_below W3 p)).on.st (I.out.below (far_below W3 p)).st2)
      have C3 := Lib.hid (fun p : Far W3 => refSameS_any r t _ (I.out.below (far_below W3 p)).on.st (I.out.below (far_below W3 p)).st2)
      generalize sameS r t = q at *
      have hqq : (q != q) = false := by cases q <;> rfl
      refine wp_region_far (by kernel_rfl) (by kernel_rfl) ?_
      repeat (first | go_big_quiet_step (first | (go_at_call 16; exact calls_far (C2.out _)) | (go_at_call 12; exact calls_far (C3.out _))) | quiet_step (first | (go_at_call 16; exact calls_far (C2.out _)) | (go_at_call 12; exact calls_far (C3.out _))))
      refine wpQuiet_nil ?_
      intro _ hw'
      obtain ⟨p, hw''⟩ := hw'
      subst hw''
      replace I := Lib.hid (I.out.below (far_below W3 p))
      clear f1 f2 C2 C3
      generalize farOf W3 p = W4 at *
      go_wp2_with fail
      go_cut [5, 6] (fun p5 p6 wx => ∃ (s d : StR) (B T C D : Nat), p5 = .pointer (some ⟨C, 0, none⟩) ∧ p6 = .pointer (some ⟨D, 0, none⟩) ∧ Hid (Cop w r s d B T C D wx))
      case first =>
        have C1 := Lib.hid (fun W hW => copyOn_of (w := w) HC HSm.out W hW)
        have hlt0 := I.out.on.one.lt
        have hd0 := below_drewS W4
        go_region_held3 (fun W' => LdX 29 (.pointer (some ⟨w.heap.size, 0, none⟩)) W' = .ok (.value (stV r)) W' ∧ OnI w r W')
          (first | assumption | exact sA0 (I.out.on.below hd0) | (refine sAm ?_ _; assumption) | (refine sAd ?_ _; assumption) | (refine sAr ?_ HWas.out ?_ _; (first | assumption | skip); (first | omega | skip)))
          (first
            | ((try go_simp); go_at_call 17; have _once := kp7; refine Calls.mono (C1.out _ ?h0) ?_; (case h0 => assumption); rintro e w8 ⟨d, rfl, hd, hdO, b8, kp8⟩; have lt8 := kp8.2.one.lt; have i8 := rst_keep b8)
            | ((try go_simp); go_at_call 17; refine Calls.mono (C1.out _ ?h0) ?_; (case h0 => assumption); rintro e w7 ⟨s, rfl, hs, hsO, b7, kp7⟩; have lt7 := kp7.2.one.lt; have i7 := rst_keep b7))
        all_goals
          go_step
          go_step
          go_meet
          refine ⟨s, d, _, _, _, _, rfl, rfl, Lib.hid (cop_of (x := noStR) (y := noStR) HWas.out ?ho hs hd hsO hdO ?h7 ?h8 ?hc ?hd ?hl)⟩
          case ho => ((repeat refine OnI.more ?_ _); exact kp8.2)
          case h8 => ((repeat refine below_one ?_); exact Below.refl _ _)
          case h7 => ((repeat refine below_one ?_); refine Below.trans ?hx (Below.mono b8 ?hy); (case hx => ((repeat refine below_one ?_); exact Below.refl _ _)); (case hy => (first | (simp; done) | (simp; omega))))
          case hc => (repeat (first | (refine rowt_last ?_; simp; done) | refine rowt_more ?_ | refine Row.below ?_ b8 | refine Row.below ?_ b7 | refine rowt_drew ?_))
          case hd => (repeat (first | (refine rowt_last ?_; simp; done) | refine rowt_more ?_ | refine Row.below ?_ b8 | refine Row.below ?_ b7 | refine rowt_drew ?_))
          case hl => (have s7 := b7.size; have s8 := b8.size; have hza : ∀ (W : World) (o : Obj), (W.alloc o).heap.size = W.heap.size + 1 := fun W o => Array.size_push ..; have hzd : ∀ W : World, W.drew.heap.size = W.heap.size := fun _ => rfl; (try simp only [hza, hzd] at s7); (try simp only [hza] at s8); (try simp only [hza, hzd]); omega)
      case rest =>
        obtain ⟨s, d, B, T, C, D, rfl, rfl, K⟩ := hcut
        have ldA := ld_sta K.out.on.one
        have ldC := ld_sta K.out.rc
        have C8 := Lib.hid (HE r s wc K.out.on.st K.out.stS)
        rw [(sameS_iff r s).2 K.out.es.symm] at C8
        have HS := Lib.hid (small_like HSm.out K.out.es)
        have HSz := Lib.hid ((sizes_of K.out.on.st).like K.out.es)
        have HM := Lib.hid (mem_like HZ.out K.out.es)
        have hno := HS.out.ords
        have hnb := HS.out.bats
        have hne := HS.out.effs
        have hnd := HS.out.doors
        clear I HSm HZ
        go_wp2_with fail
        refine C8.out.mono ?_
        rintro e W8 ⟨rfl, b8⟩
        replace K := Lib.hid (K.out.below b8)
        clear C8 ldA ldC b8
        have T0 := Lib.hid (ToT.begin K.out)
        have c9 := K.out.rc.st.2.2.2.2.1
        go_wp2_with fail
        go_loopw [40] (fun i wr => ∃ (k : Nat) (L : List OdR), k ≤ s.ords.length ∧ i = .int .i64 k ∧ Hid (tgO s.ords k L ∧ ToT W8 s B L s.bats s.effs s.doors wr)) (fun i _ => s.ords.length - (intOf i).toNat)
        case atStart => exact ⟨0, s.ords, Nat.zero_le _, rfl, Lib.hid ⟨TG.begin HSz.out.ords, T0.out⟩⟩
        case round =>
          clear c9 T0
          obtain ⟨k, L, hk, rfl, H⟩ := hrel
          by_cases hlt : k < s.ords.length
          · obtain ⟨g, n, cc, v, a1, c9, hcap, hq, hf, hl, hn, hgC, L2, H2⟩ := step_total K.out H.out.1 H.out.2 hlt
            have hCg := hgC.symm
            obtain ⟨v', hv'⟩ : ∃ v', bits .xor .i64 v 1 = v' := ⟨_, rfl⟩
            rw [hv'] at H2
            unfold maxLen at hn
            clear H
            go_wp2_with fail
            clear c9 hq hf hl hv'
            generalize wr.setCell ⟨g, k * 10 + 5, none⟩ (.int .i64 v') = W2 at *
            generalize wr = wo at *
            go_loopw [59] (fun i wr => ∃ (j : Nat) (L3 : List OdR), j ≤ n ∧ i = .int .i64 j ∧ Hid (LnK k n L3 ∧ tgO s.ords (k + 1) L3 ∧ ToT W8 s B L3 s.bats s.effs s.doors wr)) (fun i _ => n - (intOf i).toNat)
            case atStart => exact ⟨0, L2, Nat.zero_le _, rfl, H2⟩
            case round =>
              clear H2
              obtain ⟨j, L3, hj, rfl, H3⟩ := hrel
              by_cases hjt : j < n
              · obtain ⟨g3, g4, c4, u, c9, hcap, hl, hcap2, hq, hf, L4, H4⟩ := step_qty K.out H3.out.2.1 H3.out.2.2 hlt H3.out.1 hjt
                obtain ⟨u', hu'⟩ : ∃ u', bits .xor .i64 u 1 = u' := ⟨_, rfl⟩
                rw [hu'] at H4
                clear H3
                go_wp2_with fail
                go_roundw
                case rel => exact ⟨j + 1, L4, by omega, by go_num, H4⟩
                case measure => simp [intOf]; omega
              · go_wp2_with fail
                go_roundw
                case rel => exact ⟨k + 1, L3, by omega, by go_num, Lib.hid H3.out.2⟩
                case measure => simp [intOf]; omega
          · have hkn : k = s.ords.length := by omega
            subst hkn
            have c10 := (ToT.rowC H.out.2 K.out).st.2.2.2.2.2.1
            go_wp2_with fail
            clear c10
            generalize wr = wo1 at *
            go_loopw [80] (fun i wr => ∃ (k : Nat) (M : List BtR), k ≤ s.bats.length ∧ i = .int .i64 k ∧ Hid (tgB (k * 100) s.bats k M ∧ ToT W8 s B L M s.effs s.doors wr)) (fun i _ => s.bats.length - (intOf i).toNat)
            case atStart => exact ⟨0, s.bats, Nat.zero_le _, rfl, Lib.hid ⟨TG.begin (okB_all HSz.out HS.out HM.out), H.out.2⟩⟩
            case round =>
              have HO := Lib.hid H.out.1
              clear H
              obtain ⟨k, M, hk, rfl, H⟩ := hrel
              by_cases hlt : k < s.bats.length
              · obtain ⟨g, n, cc, v, a1, c9, hcap, hq, hf, hl, hn, hgC, M2, H2⟩ := step_weight K.out H.out.1 H.out.2 hlt
                have hCg := hgC.symm
                obtain ⟨v', hv'⟩ : ∃ v', bits .xor .i64 v 1 = v' := ⟨_, rfl⟩
                rw [hv'] at H2
                clear H
                go_wp2_with fail
                clear c9 hq hf hl hv'
                generalize wr.setCell ⟨g, k * 9 + 1, none⟩ (.int .i64 v') = W2 at *
                generalize wr = wo2 at *
                go_loopw [99] (fun i wr => ∃ (j : Nat) (M3 : List BtR), j ≤ n ∧ i = .int .i64 j ∧ Hid (MmK k n M3 ∧ tgB (k * 100 + j) s.bats (k + 1) M3 ∧ ToT W8 s B L M3 s.effs s.doors wr)) (fun i _ => n - (intOf i).toNat)
                case atStart => exact ⟨0, M2, Nat.zero_le _, rfl, H2⟩
                case round =>
                  clear H2
                  obtain ⟨j, M3, hj, rfl, H3⟩ := hrel
                  by_cases hjt : j < n
                  · obtain ⟨g3, g4, c4, u, c9, hcap, hl, hcap2, hq, hf, hu, HT⟩ := step_member K.out H3.out.2.1 H3.out.2.2 hlt H3.out.1 hjt
                    have hus : ¬ 9223372036854775807 < u.size + 1 := by omega
                    obtain ⟨u', hu'⟩ : ∃ u' : ByteArray, u ++ ({ data := #[120] } : ByteArray) = u' := ⟨_, rfl⟩
                    obtain ⟨M4, H4⟩ := HT u' (by rw [← hu']; exact ByteArray.size_append)
                    clear H3 HT hu
                    go_wp2_with fail
                    go_roundw
                    case rel => exact ⟨j + 1, M4, by omega, by go_num, H4⟩
                    case measure => simp [intOf]; omega
                  · go_wp2_with fail
                    go_roundw
                    case rel => exact ⟨k + 1, M3, by omega, by go_num, Lib.hid ⟨H3.out.2.1.weaken (okB_more (by omega)), H3.out.2.2⟩⟩
                    case measure => simp [intOf]; omega
              · have hkn : k = s.bats.length := by omega
                subst hkn
                have c11 := (ToT.rowC H.out.2 K.out).st.2.2.2.2.2.2
                go_wp2_with fail
                clear c11
                generalize wr = wo3 at *
                go_loopw [118] (fun i wr => ∃ (k : Nat) (E : List Ef), k ≤ s.effs.length ∧ i = .int .i64 k ∧ Hid (tgE s.effs k E ∧ ToT W8 s B L M E s.doors wr)) (fun i _ => s.effs.length - (intOf i).toNat)
                case atStart => exact ⟨0, s.effs, Nat.zero_le _, rfl, Lib.hid ⟨TG.begin HSz.out.effs, H.out.2⟩⟩
                case round =>
                  have HB := Lib.hid H.out.1
                  clear H
                  obtain ⟨k, E, hk, rfl, H⟩ := hrel
                  by_cases hlt : k < s.effs.length
                  · obtain ⟨g, v, c9, hcap, hq, hf, E2, H2⟩ := step_key K.out H.out.1 H.out.2 hlt
                    obtain ⟨v', hv'⟩ : ∃ v', bits .xor .i64 v 1 = v' := ⟨_, rfl⟩
                    rw [hv'] at H2
                    clear H
                    go_wp2_with fail
                    go_roundw
                    case rel => exact ⟨k + 1, E2, by omega, by go_num, H2⟩
                    case measure => simp [intOf]; omega
                  · have hkn : k = s.effs.length := by omega
                    subst hkn
                    have c5 := (ToT.rowC H.out.2 K.out).st.1.2.2.2.2.2
                    go_wp2_with fail
                    clear c5
                    generalize wr = wo4 at *
                    go_loopw [134] (fun i wr => ∃ (k : Nat) (F : List Int), k ≤ s.doors.length ∧ i = .int .i64 k ∧ Hid (tgD s.doors k F ∧ ToT W8 s B L M E F wr)) (fun i _ => s.doors.length - (intOf i).toNat)
                    case atStart => exact ⟨0, s.doors, Nat.zero_le _, rfl, Lib.hid ⟨TG.begin (fun _ _ => trivial), H.out.2⟩⟩
                    case round =>
                      have HEf := Lib.hid H.out.1
                      clear H
                      obtain ⟨k, F, hk, rfl, H⟩ := hrel
                      by_cases hlt : k < s.doors.length
                      · obtain ⟨g, v, c9, hcap, hq, hf, F2, H2⟩ := step_door K.out H.out.1 H.out.2 hlt
                        obtain ⟨v', hv'⟩ : ∃ v', bits .xor .i64 v 1 = v' := ⟨_, rfl⟩
                        rw [hv'] at H2
                        clear H
                        go_wp2_with fail
                        go_roundw
                        case rel => exact ⟨k + 1, F2, by omega, by go_num, H2⟩
                        case measure => simp [intOf]; omega
                      · have hkn : k = s.doors.length := by omega
                        subst hkn
                        have A := Lib.hid (AllT.mk HO.out HB.out HEf.out H.out.1)
                        have c := (ToT.rowC H.out.2 K.out).st
                        obtain ⟨⟨_, _, _, _, _, c5⟩, _, _, _, c9, c10, c11⟩ := c
                        have hw1 : IntKind.i64.wrap ((s.ords.length : Int) + (s.bats.length : Int)) = (s.ords.length : Int) + (s.bats.length : Int) := by rw [IntKind.wrap_i64]; omega
                        have hw2 : IntKind.i64.wrap ((s.ords.length : Int) + (s.bats.length : Int) + (s.effs.length : Int)) = (s.ords.length : Int) + (s.bats.length : Int) + (s.effs.length : Int) := by rw [IntKind.wrap_i64]; omega
                        have hw3 : IntKind.i64.wrap ((s.ords.length : Int) + (s.bats.length : Int) + (s.effs.length : Int) + (s.doors.length : Int)) = (s.ords.length : Int) + (s.bats.length : Int) + (s.effs.length : Int) + (s.doors.length : Int) := by rw [IntKind.wrap_i64]; omega
                        obtain ⟨q, hq⟩ : ∃ q, decide ((0 : Int) < (s.ords.length : Int) + (s.bats.length : Int) + (s.effs.length : Int) + (s.doors.length : Int)) = q := ⟨_, rfl⟩
                        have hqn : decide (0 < s.ords.length + s.bats.length + s.effs.length + s.doors.length) = q := by rw [← hq]; congr 1; simp; omega
                        have ldA := ld_sta (ToT.on H.out.2 K.out).one
                        have ldD := ld_sta (ToT.rowD H.out.2 K.out)
                        have CD := Lib.hid (HE r d wr (ToT.on H.out.2 K.out).st (ToT.stD H.out.2 K.out))
                        rw [(sameS_iff r d).2 K.out.ed.symm] at CD
                        go_wp2_with fail
                        refine CD.out.mono ?_
                        rintro e W9 ⟨rfl, b9⟩
                        have CE := Lib.hid (HE r (stT s L M E F) W9 ((ToT.on H.out.2 K.out).st.below b9) ((A.out.st (by omega) HSz.out H.out.2).below b9))
                        rw [show stV (stT s L M E F) = stV s from congrArg Value.agg A.out.stC, A.out.same K.out.es, hqn] at CE
                        have I9 := Lib.hid ((ToT.on H.out.2 K.out).below b9)
                        have ld1 := ld_sta I9.out.one
                        have ld2 := ld_sta ((ToT.rowC H.out.2 K.out).below b9)
                        have hqe : ((!q) == (!q)) = true := by cases q <;> rfl
                        clear CD b9 ldA ldD A H hw1 hw2 hw3 hq hqn
                        go_wp2_with fail
                        refine CE.out.mono ?_
                        rintro e W10 ⟨rfl, b10⟩
                        have I10 := Lib.hid (I9.out.below b10)
                        clear CE b10 I9 ld1 ld2
                        go_wp2_with fail
                        go_ret
                        exact ⟨rfl, I10.out.low⟩


set_option maxRecDepth 100000 in
set_option maxHeartbeats 1000000 in
theorem stateCopies_lifted (os : Os) (started : os.Started) (H : Type) (enc : TypeId × Value → H) :
    ReturnsInHanded {} Try.checked os 6 .any (Rows.stateCopiesSpec.pre6 enc Try.prog Try.f6 Rows.stateCopiesRow.domain false) (Rows.stateCopiesSpec.post enc Try.prog Try.f6 false true false false) := by
  refine returnsInHanded_of_change_sized (C := Try.checked) own started (by kernel_rfl) Try.func6
    (ChangeSpec.witness6 (enc := enc) (C := Try.checked) false ⟨#[], #[.agg #[.int .i64 0, .int .i64 0, .int .i64 0, .int .i64 0, .int .i64 0, .slice none 0 0, .int .i64 0, .int .i64 0, .int .i64 0, .slice none 0 0, .slice none 0 0, .slice none 0 0], .agg #[.int .i64 0, .int .i64 0, .int .i64 0, .int .i64 0, .int .i64 0, .slice none 0 0, .int .i64 0, .int .i64 0, .int .i64 0, .slice none 0 0, .slice none 0 0, .slice none 0 0]], []⟩ 8 (by kernel_rfl) (by kernel_rfl) (by kernel_rfl) (by kernel_rfl)) ?_
  intro W base args ds gs before hval0 hW _ hsz0 _
  have hval : ∀ (j : Nat) t v, Try.f6.params[j]? = some t → args[j]? = some v → Value.okWide Try.prog W .any base t v := hval0
  have hW' := hW
  obtain ⟨p, q, hA0, hV, rfl, _, _⟩ := hW
  have hA : DataW.TrodAll enc Try.prog W 0 (fun _ => true) true Try.f6.params.toList args.toList ds p := hA0
  have hsz : (DataW.weightsEach Try.prog (Try.f6.params.toList ++ Rows.stateCopiesSpec.plain.varTypes Try.prog) (ds ++ gs)).all (· ≤ reachBytes) = true := hsz0
  clear hsz0
  rw [Try.params6] at hA hval hsz
  obtain ⟨v0, vs0, d0, ds0, p0, q_0, hargs, rfl, rfl, h0, r0⟩ := trodAll_cons hA
  obtain ⟨v1, vs1, d1, ds1, p1, q_1, rfl, rfl, rfl, h1, r1⟩ := trodAll_cons r0
  obtain ⟨rfl, rfl, rfl⟩ := trodAll_nil r1
  obtain rfl : args = #[v0, v1] := by cases args; simp_all
  obtain ⟨rfl, rfl⟩ := trodVars_none hV
  clear hA0 hval0
  simp only [List.append_nil] at hW'
  obtain ⟨st0, rfl, hS0, hw0⟩ := state_of_trod (hval 0 29 v0 rfl rfl) h0
  have hz0 := state_reach hS0 h0 (fun n hn => by simpa using List.all_eq_true.1 hsz n (DataW.weights_mem_each (j := 0) rfl rfl n hn))
  have hlt0 : ∀ x ∈ p0, x.block < W.heap.size := fun x hx => by simpa using hW'.lt x (by simpa using (by simp [hx]))
  obtain ⟨st1, rfl, hS1, hw1⟩ := state_of_trod (hval 1 29 v1 rfl rfl) h1
  have hlt1 : ∀ x ∈ p1, x.block < W.heap.size := fun x hx => by simpa using hW'.lt x (by simpa using (by simp [hx]))
  refine (copies_walk new_of right_of copy_of same_of st0 st1 W hS0 hS1 hz0).mono fun e W' ⟨he, hb⟩ => ?_
  subst he
  have hT : DataW.TrodAll enc Try.prog W' 0 (fun b => decide (b < W.heap.size)) true _ _ _ _ := (trodAll_cons_mk (Below.trod laidOut (by kernel_rfl) (of_decide_eq_true (by kernel_rfl)) h0 hb hlt0) (trodAll_cons_mk (Below.trod laidOut (by kernel_rfl) (of_decide_eq_true (by kernel_rfl)) h1 hb hlt1) trodAll_mk0))
  simp only [List.append_nil] at hT
  exact ⟨_, rfl, _, _, _, [], p0 ++ (p1), [], hW', trodAll_mk1 (shut_bool Try.underlying4 _), hT, rfl, hb.frame _, fun h => by cases h⟩

theorem stateCopies_holds : Rows.StateCopiesSaid :=
  OpenClaim.holds_of_wide 6 Try.f6 rfl rfl rfl rfl rfl rfl rfl ⟨rfl, rfl, rfl, rfl, rfl⟩ rfl rfl rfl rfl rfl (by kernel_rfl) Try.func6 (by kernel_rfl)
    (of_decide_eq_true (by kernel_rfl)) (by unfold Func.isWrapper; first | (rw [if_pos (by decide +kernel)]; kernel_rfl) | (rw [if_neg (by decide +kernel)]; exact ⟨rfl, rfl⟩))
    (fun os started H enc _ => stateCopies_lifted os started H enc)
#print axioms stateCopies_holds


end Go.Proofs.Ytaghbfnikcldiaa
