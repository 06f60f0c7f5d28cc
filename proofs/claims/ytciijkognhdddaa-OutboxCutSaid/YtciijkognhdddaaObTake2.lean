/- What Take of package outbox answers. -/
import Derived.Test.YtciijkognhdddaaObTake
namespace Go.Proofs.Ytciijkognhdddaa
set_option maxRecDepth 100000
open Go.RowKit Go.ChangeShapes Go.WideShapes Go.ChangeAt
attribute [local go_sem ↓] ldEf stEf alEf bxEf eqEf bdEf bsEf
attribute [local go_sem] al_ef bx_ef st_new bd_ef bs_ef bs_ef0

theorem OwnS.but {α : Type} {L : Lay α} {w w' : World} {base g : Nat} {v : Value} {l : List α} (h : OwnS L w base v l) (hb : But g w w') (hg : g < base) : OwnS L w' base v l := by
  refine h.grown fun k h1 h2 => hb.block k h2 (by omega)
/-- The outbox that stands next, or none, and whether there is one, are answered; the Reader, if there is one, is further on. -/
def TakeP (g : Nat) (s : Sc) (w : World) (e : Ending) (w' : World) : Prop :=
  ∃ v, e = .returned (.tuple #[v, .bool (boxO s).isSome]) ∧ OwnS LE w' w.heap.size v (boxV s) ∧ ((boxO s).isSome = true → RdS w' g (boxS s).2) ∧ But g w w'
theorem box_no {s : Sc} (h : boxO s = none) : boxV s = [] ∧ (boxO s).isSome = false := by
  unfold boxV
  rw [h]
  exact ⟨rfl, rfl⟩
theorem box_yes {s : Sc} (h1 : (boxS s).2.isSome = true) (h2 : rightE (boxS s).1 = true) : boxV s = (boxS s).1 ∧ (boxO s).isSome = true := by
  unfold boxV boxO
  rw [h1, h2]
  exact ⟨rfl, rfl⟩
theorem right_snoc {a : List Ef} (h : rightE a = true) (e : Ef) : followB a e = rightE (a ++ [e]) := follow_add h e

set_option maxHeartbeats 1000000 in
theorem obTake_any (w : World) (g : Nat) (s : Sc) (h : RdS w g s) (hl : ∀ b, s = some b → b.length ≤ 1000000) : Calls Try.prog 24 #[.pointer (some ⟨g, 0, none⟩)] w (TakeP g s w) := by
  have hg := h.lt
  have hb := h.bytes
  have C0 := Lib.hid (rd_num w g s 1000000000000 h (by decide))
  have HN := Lib.hid (fun k => box_fail hb (k := k))
  have HB := Lib.hid (box_bad hb)
  have HD := Lib.hid (box_done hb)
  have hb1 := numS_bytes hb 1000000000000
  have hn := numS_le 1000000000000 s hb
  have HK : Hid (∀ k, (effsS k (numS 1000000000000 s).2).2.isSome = true → k ≤ 1000000) := Lib.hid (fun k hk => by
    cases e : (numS 1000000000000 s).2 with
    | none => rw [e, effsS_none] at hk; cases hk
    | some r =>
      cases e2 : s with
      | none => rw [e2] at e; cases e
      | some b =>
        have h1 := effsS_few hb1 e hk
        have h2 := numS_short e2 e
        have h3 := hl b e2
        omega)
  have HO := Lib.hid (fun k => effsS_order k hb1)
  have HZ : Hid ((numS 1000000000000 s).2 = none → (numS 1000000000000 s).1 = 0) := Lib.hid (fun e => by rw [numS_zero e])
  clear h hb
  generalize (numS 1000000000000 s).1 = n at *
  generalize (numS 1000000000000 s).2 = S at *
  go_enter Try.func24, Try.ntmps24
  go_wp2_with fail
  refine C0.out.mono ?_
  rintro e w1 ⟨rfl, r1, b1⟩
  have R1 := Lib.hid r1
  have B1 := Lib.hid b1
  clear C0 r1 b1
  go_wp2_with fail
  go_loopw [4, 8] (fun s4 i wr => ∃ (k : Nat) (acc : List Ef) (sc : Sc), k ≤ n ∧ i = .int .u64 k ∧ Hid (OwnS LE wr w.heap.size s4 acc) ∧ Hid (effsS k S = (acc, sc)) ∧ Hid (acc.length = k) ∧ acc.length ≤ 1000000 ∧ Hid (RdS wr g sc) ∧ Hid (rightE acc = true) ∧ Hid (sc = none → n = 0) ∧ Hid (But g w wr)) (fun _ i _ => n - (intOf i).toNat)
  case atStart => exact ⟨0, [], S, Nat.zero_le _, rfl, Lib.hid (OwnS.nil _ _), Lib.hid rfl, Lib.hid rfl, by simp, R1, Lib.hid rfl, HZ, B1⟩
  case round =>
    clear R1 B1
    obtain ⟨k, acc, sc, hk, rfl, HW, HE, hal, hkm, R, HRA, HNZ, B⟩ := hrel
    have hgr := R.out.lt
    by_cases hlt : k < n
    · have HS := Lib.hid (effsS_snoc k S)
      have HNk := Lib.hid (HN.out k hlt)
      have HKk := Lib.hid (HK.out (k + 1))
      have HOk := Lib.hid (HO.out (k + 1))
      rw [HE.out] at HS
      have CR := Lib.hid (obRead_any wr g sc R.out)
      have HF := Lib.hid (right_snoc HRA.out (effS sc).1)
      have hord : (effS sc).1.order.size ≤ maxLen := by
        have := effS_order R.out.bytes
        unfold maxLen; omega
      clear HE HN HK HO HB HD HZ HNZ
      generalize (effS sc).1 = e at *
      generalize (effS sc).2 = t at *
      go_wp2_with fail
      refine CR.out.mono ?_
      rintro x w2 ⟨rfl, r2, b2⟩
      have hsz := b2.size
      have B3 := Lib.hid (B.out.trans (b2.trans (But.alloc g w2 (.cells (efC e) 27))))
      have R3 := Lib.hid (r2.below ((Below.refl w2.heap.size w2).alloc (Nat.le_refl _) (.cells (efC e) 27)))
      have O3 := Lib.hid ((HW.out.but b2 hg).alloc (.cells (efC e) 27))
      have Q3 := Lib.hid (Row.new w2 (efC e) 27)
      clear r2 b2 CR HW R B
      go_wp2_with fail
      have hg3 : g < w2.heap.size := by omega
      generalize w2.alloc (.cells (efC e) 27) = W3 at *
      generalize w2.heap.size = X at *
      refine (rd_bad_any W3 g t R3.out).mono ?_
      rintro x w' ⟨rfl, rfl⟩
      cases ht : t.isNone with
      | true =>
        have HE := Lib.hid (box_no (HNk.out (.inl (by rw [HS.out]; exact Option.isNone_iff_eq_none.1 ht))))
        go_wp2_with fail
        go_ret2
        exact ⟨_, by rw [HE.out.2]; rfl, by rw [HE.out.1]; exact OwnS.nil _ _, fun h => (by rw [HE.out.2] at h; cases h), B3.out⟩
      | false =>
        have ld := ld_row Q3.out
        obtain ⟨a3, c3, rfl, s3⟩ := O3.out.sl
        have CF := Lib.hid (follow_any a3 c3 acc e W3 s3 hord)
        rw [HF.out] at CF
        clear s3
        cases hf : rightE (acc ++ [e]) with
        | false =>
          have HE := Lib.hid (box_no (HNk.out (.inr (by rw [HS.out]; exact hf))))
          rw [hf] at CF
          go_wp2_with fail
          refine CF.out.mono ?_
          rintro x w4 ⟨rfl, b4⟩
          have B4 := Lib.hid (B3.out.trans (But.of (g := g) b4))
          go_wp2_with fail
          go_ret2
          exact ⟨_, by rw [HE.out.2]; rfl, by rw [HE.out.1]; exact OwnS.nil _ _, fun h => (by rw [HE.out.2] at h; cases h), B4.out⟩
        | true =>
          rw [hf] at CF
          have hk1 : k + 1 ≤ 1000000 := HKk.out (by rw [HS.out]; cases t with | none => cases ht | some _ => rfl)
          go_wp2_with fail
          refine CF.out.mono ?_
          rintro x w4 ⟨rfl, b4⟩
          have B4 := Lib.hid (B3.out.trans (But.of (g := g) b4))
          have R4 := Lib.hid (R3.out.below b4)
          have O4 := Lib.hid (O3.out.below b4)
          have Q4 := Lib.hid (Q3.out.below b4)
          have hg4 := R4.out.lt
          have hlen : acc.length + [e].length ≤ 10000000 := by simp; omega
          have hw4 := B4.out.size
          clear b4 ld CF B3 R3 O3 Q3
          have ld := ld_row Q4.out
          go_wp2_with (at_builtin; go_must (refine wpList_append_sl LE_ok rfl _ _ rfl w.heap.size _ acc [e] rfl (O4.out.alloc _) _ 1 rfl (SlP.one LE_ok _ e) hlen (Nat.le_trans hw4 (by simp)) ?_))
          rintro v5 w5 o5 g5
          obtain ⟨q, hq1, hq2⟩ := But.grown g5 (B := w.heap.size) O4.out.row
          have BA := Lib.hid (B4.out.trans (But.alloc g w4 (.cells (efC e) 27)))
          have B5 := Lib.hid (BA.out.new hq1 hq2)
          have R5 := Lib.hid ((R4.out.below ((Below.refl w4.heap.size w4).alloc (Nat.le_refl _) (.cells (efC e) 27))).other (by omega) hq2)
          have O5 := Lib.hid o5
          clear o5 g5 hq2 BA B4 R4 O4 Q4 ld
          go_wp2_with fail
          go_roundw
          case rel => exact ⟨k + 1, acc ++ [e], t, hlt, by go_num, O5, HS, Lib.hid (by rw [List.length_append, hal.out]; rfl), by rw [List.length_append, hal.out]; exact hk1, R5, Lib.hid hf, Lib.hid (fun h => by rw [h] at ht; cases ht), B5⟩
          case measure => simp [intOf]; omega
    · obtain rfl : k = n := by omega
      go_wp2_with fail
      refine (rd_bad_any wr g sc R.out).mono ?_
      rintro x w' ⟨rfl, rfl⟩
      cases hs : sc.isNone with
      | true =>
        have hsc : sc = none := Option.isNone_iff_eq_none.1 hs
        have h0 := HNZ.out hsc
        subst h0
        have hS : S = none := by
          have := HE.out
          rw [effsS] at this
          injection this with _ h2
          rw [h2, hsc]
        have hE := Lib.hid (box_no (HB.out hS))
        have hacc : acc = [] := List.eq_nil_of_length_eq_zero hal.out
        go_wp2_with fail
        go_ret2
        exact ⟨_, by rw [hE.out.2]; rfl, by rw [hE.out.1, ← hacc]; exact HW.out, fun h => (by rw [hE.out.2] at h; cases h), B.out⟩
      | false =>
        have hbox : boxS s = (acc, sc) := by rw [HD.out (by have := hal.out; omega)]; exact HE.out
        have hE := Lib.hid (box_yes (s := s) (by rw [hbox]; cases sc with | none => cases hs | some _ => rfl) (by rw [hbox]; exact HRA.out))
        go_wp2_with fail
        go_ret2
        exact ⟨_, by rw [hE.out.2]; rfl, by rw [hE.out.1, hbox]; exact HW.out, fun _ => (by rw [hbox]; exact R.out), B.out⟩

end Go.Proofs.Ytciijkognhdddaa
