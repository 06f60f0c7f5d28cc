/- CheckTurns: the law returns true for any bytes, any place and any byte: with one byte turned, or two neighbours that change places, it is another number. It has no conditions. -/
import Derived.Test.YtgelfopjolkfdaaArgs
import Derived.Deep.QuietTactic
import Derived.BigQuiet
namespace Go.Proofs.Ytgelfopjolkfdaa
open Go.ChangeShapes Go.WideShapes Go.ChangeAt Go.RowKit

theorem OwnB.set {w : World} {base g n cap : Nat} {l : List Nat} (h : OwnB w base (.slice (some ⟨g, 0, none⟩) n cap) l) (i z : Nat) : OwnB (w.setCell ⟨g, i, none⟩ (.int .u8 (z : Int))) base (.slice (some ⟨g, 0, none⟩) n cap) (l.set i z) := by
  rcases h.2 with ⟨e, _⟩ | ⟨g', cap', cur, e, h1, h2, h3, h4, h5, h6⟩
  · cases e
  · injection e with e1 e2 e3
    injection e1 with e1
    injection e1 with e1
    subst e1 e2 e3
    refine ⟨by simp, .inr ⟨g, cap, cur.set! i (bv z), by rw [List.length_set], h1, ?_, by rw [List.length_set]; exact h3, h4, by simpa using h5, ?_⟩⟩
    · simp [World.setCell, Array.getElem?_modify, h2]
    · rw [List.length_set, List.map_set, ← h6]
      simp only [Array.set!_eq_setIfInBounds, Array.toList_setIfInBounds]
      rw [List.take_set]

/-- The row of a slice that is not nil. -/
theorem OwnB.at {w : World} {base : Nat} {v : Value} {l : List Nat} (h : OwnB w base v l) (hv : v ≠ .slice none 0 0) :
    ∃ g cap, v = .slice (some ⟨g, 0, none⟩) l.length cap ∧ base ≤ g ∧ g < w.heap.size ∧ l.length ≤ cap ∧ (∀ (j x : Nat), l[j]? = some x → w.cell? ⟨g, j, none⟩ = some (.int .u8 (x : Int))) ∧ (∀ j, w.frozen? ⟨g, j, none⟩ = false) := by
  rcases h.2 with ⟨rfl, h0⟩ | ⟨g, cap, cur, rfl, h1, h2, h3, h4, h5, h6⟩
  · exact absurd rfl hv
  · refine ⟨g, cap, rfl, h1, (Array.getElem?_eq_some_iff.1 h2).1, h3, fun j x hx => ?_, fun j => by simp [World.frozen?, h2]⟩
    have hj : (cur.toList.take (l.length * 1))[j]? = some (bv x) := by rw [h6, List.getElem?_map, hx]; rfl
    rw [List.getElem?_take] at hj
    split at hj
    · simp only [Array.getElem?_toList] at hj
      simp [World.cell?, h2, hj]
    · cases hj

theorem bytes_set {l : List Nat} (h : Bytes l) (i : Nat) {z : Nat} (hz : z < 256) : Bytes (l.set i z) := by
  intro b hb
  rcases List.mem_or_eq_of_mem_set hb with h1 | h1
  · exact h b h1
  · omega

theorem split_at (l : List Nat) (i : Nat) (h : i < l.length) : l = l.take i ++ l[i] :: l.drop (i + 1) := by
  rw [← List.drop_eq_getElem_cons h, List.take_append_drop]

/-- One byte turned. -/
theorem turned_one {l : List Nat} (hl : Bytes l) (i : Nat) (h : i < l.length) (y : Nat) (hy : y < 256) (h0 : y ≠ 0) : ((crc (l.set i (l[i] ^^^ y)) : Nat) : Int) ≠ ((crc l : Nat) : Int) := by
  intro e
  have e : crc (l.set i (l[i] ^^^ y)) = crc l := by omega
  have hx : l[i] < 256 := hl _ (List.getElem_mem h)
  rw [List.set_eq_take_append_cons_drop, if_pos h] at e
  have hs := split_at l i h
  generalize l[i] = x at *
  rw [hs] at e
  refine crc_turned (l.take i) (l.drop (i + 1)) (x ^^^ y) x (fun b hb => hl b (List.mem_of_mem_take hb)) (Nat.xor_lt_two_pow (n := 8) hx hy) hx (fun h1 => h0 ?_) ?_
  · have := congrArg (x ^^^ ·) h1
    simp only [turn_turn, Nat.xor_self] at this
    exact this
  · rw [← hs]
    rw [← hs] at e
    exact e

/-- Two neighbours that change places. -/
theorem turned_two {l : List Nat} (hl : Bytes l) (i : Nat) (h : i + 1 < l.length) (hne : l[i] ≠ l[i + 1]) : ((crc ((l.set i l[i + 1]).set (i + 1) l[i]) : Nat) : Int) ≠ ((crc l : Nat) : Int) := by
  intro e
  have e : crc ((l.set i l[i + 1]).set (i + 1) l[i]) = crc l := by omega
  have hx : l[i] < 256 := hl _ (List.getElem_mem (by omega))
  have hy : l[i + 1] < 256 := hl _ (List.getElem_mem h)
  have hs : l = l.take i ++ l[i] :: l[i + 1] :: l.drop (i + 2) := by
    have h1 := split_at l i (by omega)
    rw [List.drop_eq_getElem_cons h] at h1
    exact h1
  have hlen : (l.take i).length = i := by rw [List.length_take]; omega
  have hn : (l.set i l[i + 1]).set (i + 1) l[i] = l.take i ++ l[i + 1] :: l[i] :: l.drop (i + 2) := by
    generalize l[i] = x at *
    generalize l[i + 1] = y at *
    have ht : Bytes (l.take i) := fun b hb => hl b (List.mem_of_mem_take hb)
    generalize l.take i = p at *
    generalize l.drop (i + 2) = q at *
    rw [hs, List.set_append_right _ _ (by omega), hlen, Nat.sub_self, List.set_cons_zero, List.set_append_right _ _ (by omega), hlen, show i + 1 - i = 1 by omega, List.set_cons_succ, List.set_cons_zero]
  rw [hn] at e
  generalize l[i] = x at *
  generalize l[i + 1] = y at *
  refine crc_swapped (l.take i) (l.drop (i + 2)) y x (fun b hb => hl b (List.mem_of_mem_take hb)) hy hx (fun h1 => hne h1.symm) ?_
  rw [← hs]
  exact e

theorem turned_two2 {l : List Nat} (hl : Bytes l) (i x z : Nat) (h1 : l[i]? = some x) (h2 : l[i + 1]? = some z) (hne : x ≠ z) : ((crc ((l.set i z).set (i + 1) x) : Nat) : Int) ≠ ((crc l : Nat) : Int) := by
  obtain ⟨_, e1⟩ := List.getElem?_eq_some_iff.1 h1
  obtain ⟨h4, e2⟩ := List.getElem?_eq_some_iff.1 h2
  subst e1 e2
  exact turned_two hl i h4 hne

theorem xor_u8 (a b : Nat) (ha : a < 256) (hb : b < 256) : bits .xor .u8 (a : Int) (b : Int) = ((a ^^^ b : Nat) : Int) := u8_xor_nat a b ha hb

theorem below_drewN {B : Nat} {a w : World} (h : Below B a w) (q : Nat) : Below B a (w.drewN q) := ⟨h.os, h.tape, h.output, h.size, h.block⟩

set_option maxHeartbeats 4000000 in
theorem turns_walk (b : Option Addr) (cb : Nat) (l : List Nat) (at_ : Int) (y : Nat) (w : World) (h2 : BytesP w b cb l) (hat : -9223372036854775808 ≤ at_ ∧ at_ ≤ 9223372036854775807) (hy : y < 256) :
    Calls Try.prog 7 #[.slice b l.length cb, .int .i64 at_, .int .u8 (y : Int)] w (TrueB w) := by
  have H2 := Lib.hid h2
  clear h2
  obtain ⟨ha0, ha1⟩ := hat
  cases t0 : decide (1000 < (l.length : Int)) with
  | true =>
    go_enter Try.func7, Try.ntmps7
    go_wp2_with fail
    refine (alive_any _).mono ?_
    rintro e w1 ⟨rfl, b1⟩
    go_wp2_with fail
    go_ret
    exact ⟨rfl, b1⟩
  | false =>
  cases t1 : decide (at_ < 0) with
  | true =>
    go_enter Try.func7, Try.ntmps7
    go_wp2_with fail
    refine (alive_any _).mono ?_
    rintro e w1 ⟨rfl, b1⟩
    go_wp2_with fail
    go_ret
    exact ⟨rfl, b1⟩
  | false =>
  cases t2 : decide ((l.length : Int) ≤ at_) with
  | true =>
    go_enter Try.func7, Try.ntmps7
    go_wp2_with fail
    refine (alive_any _).mono ?_
    rintro e w1 ⟨rfl, b1⟩
    go_wp2_with fail
    go_ret
    exact ⟨rfl, b1⟩
  | false =>
  cases t3 : ((y : Int) == 0) with
  | true =>
    go_enter Try.func7, Try.ntmps7
    go_wp2_with fail
    refine (alive_any _).mono ?_
    rintro e w1 ⟨rfl, b1⟩
    go_wp2_with fail
    go_ret
    exact ⟨rfl, b1⟩
  | false =>
    have q4 : l.length ≤ 1000 := by simp at t0; omega
    have q0 : 0 ≤ at_ := by simp at t1; omega
    have q1 : at_ < l.length := by simp at t2; omega
    have hy0 : y ≠ 0 := by simp at t3; omega
    obtain ⟨i, rfl⟩ := Int.eq_ofNat_of_zero_le q0
    have hi : i < l.length := by omega
    have hne : l ≠ [] := by intro e; subst e; simp at hi
    have hx : l[i] < 256 := H2.out.byte _ (List.getElem_mem hi)
    have hcx : l[i]? = some l[i] := List.getElem?_eq_getElem hi
    have TN := Lib.hid (turned_one H2.out.byte i hi y hy hy0)
    have hbs := bytes_set H2.out.byte i (Nat.xor_lt_two_pow (n := 8) hx hy)
    have CX := Lib.hid hcx
    clear hcx
    generalize hX : l[i] = x at *
    have TW := Lib.hid (fun z (h : l[i + 1]? = some z) h1 => turned_two2 H2.out.byte i x z CX.out h h1)
    have hxx := xor_u8 x y hx hy
    have C1 := Lib.hid (fun W (h : BytesP W b cb l) => of_one h 27)
    obtain ⟨bb, bo, rfl, _, _⟩ := H2.out.cell hne
    go_enter Try.func7, Try.ntmps7
    go_wp2_with fail
    refine (alive_any _).mono ?_
    rintro e w1 ⟨rfl, b1⟩
    have K1 := Lib.hid (H2.out.below b1)
    have OE := Lib.hid (own_fresh w1 w1.heap.size (Nat.le_refl _))
    have bw := (Below.refl w1.heap.size w1).alloc (Nat.le_refl _) (.cells #[] 5)
    have G1 := Lib.hid (K1.out.below bw)
    go_wp2_with (at_builtin; go_must (refine wpList_append_bytes rfl _ _ rfl w1.heap.size (.slice (some ⟨w1.heap.size, 0, none⟩) 0 0) [] l rfl OE.out (by simp) (some ⟨bb, bo, none⟩) cb rfl G1.out (by simp; omega) bw.size ?_))
    rintro v2 w2 o2 g2 e2
    have bw2 := bw.grown g2 bw.size OE.out.row
    have O2 := Lib.hid (show OwnB w2 w1.heap.size v2 l from o2)
    clear o2 g2
    obtain ⟨g, cap, rfl, hg1, hg2, hcap, hcell, hfr⟩ := O2.out.at e2
    have c1 := hcell i x CX.out
    have f1 := hfr i
    have OS := Lib.hid (O2.out.set i (x ^^^ y))
    have bw3 := bw2.setCell (p := ⟨g, i, none⟩) hg1 (.int .u8 ((x ^^^ y : Nat) : Int))
    clear hcell hfr
    have hlen : (l.set i (x ^^^ y)).length = l.length := List.length_set
    have hB1 : BytesP (w2.setCell ⟨g, i, none⟩ (.int .u8 ((x ^^^ y : Nat) : Int))) (some ⟨g, 0, none⟩) cap (l.set i (x ^^^ y)) := by
      have OS2 := OS.out
      rw [← hlen] at OS2
      obtain ⟨a', c', e', hb'⟩ := OS2.bytes hbs
      injection e' with e1 e2 e3
      subst e1 e3
      exact hb'
    have C2 := of_one hB1 27 w2.heap.size (by simp)
    rw [hlen] at C2
    have HC2 := Lib.hid C2
    clear C2 hB1 hlen OS hbs
    generalize crc (l.set i (x ^^^ y)) = r1 at *
    have TV := Lib.hid (show ∀ z : Nat, z = crc l → ((r1 : Int) == (z : Int)) = false from fun z hz => by rw [hz]; simpa using TN.out)
    have tne := TV.out _ rfl
    clear TV TN
    generalize hR : crc l = r2 at *
    go_wp2_with fail
    refine HC2.out.mono ?_
    rintro e w' ⟨rfl, rfl⟩
    have bw4 := bw3.alloc bw3.size (.cells #[.slice (some ⟨g, 0, none⟩) l.length cap] 27)
    go_wp2_with fail
    refine (C1.out _ (K1.out.below bw4) _ (by simp)).mono ?_
    rintro e w' ⟨rfl, rfl⟩
    have bw5 := bw4.alloc bw4.size (.cells #[.slice (some ⟨bb, bo, none⟩) l.length cb] 27)
    have bt := b1.trans (bw5.mono b1.size)
    have K5 := Lib.hid (K1.out.below bw5)
    have xs : IntKind.i64.wrap ((i : Int) + 1) = (i : Int) + 1 := IntWalk.i64_in _ (by omega)
    cases d1 : decide ((l.length : Int) ≤ (i : Int) + 1) with
    | true =>
      go_wp2_with fail
      go_quiet (fail)
      go_wp2_with fail
      go_ret
      exact ⟨rfl, below_drewN bt _⟩
    | false =>
      have hi2 : i + 1 < l.length := by simp at d1; omega
      obtain ⟨bb', bo', e', hblt, hbc⟩ := K5.out.cell hne
      injection e' with e'
      injection e' with e1 e2
      subst e1 e2
      have c2 := hbc i x CX.out
      have c3 := hbc (i + 1) _ (List.getElem?_eq_getElem hi2)
      have CZ := Lib.hid (List.getElem?_eq_getElem hi2)
      have hz : l[i + 1] < 256 := H2.out.byte _ (List.getElem_mem hi2)
      generalize hZ : l[i + 1] = z at *
      clear hbc
      have tn : ((i : Int) + 1).toNat = i + 1 := by omega
      cases d2 : ((x : Int) == (z : Int)) with
      | true =>
        go_wp2_with fail
        go_quiet (fail)
        go_wp2_with fail
        go_ret
        exact ⟨rfl, below_drewN bt _⟩
      | false =>
        go_wp2_with fail
        go_quiet (fail)
        have bq := below_drewN bw5 nq
        have btq := b1.trans (bq.mono b1.size)
        generalize ((((w2.setCell ⟨g, i, none⟩ (.int .u8 ((x ^^^ y : Nat) : Int))).alloc (.cells #[.slice (some ⟨g, 0, none⟩) l.length cap] 27)).alloc (.cells #[.slice (some ⟨bb, bo, none⟩) l.length cb] 27)).drewN nq) = w6 at *
        clear bw bw2 bw3 bw4 bw5 bt c1 f1 c2 c3 HC2 O2 G1 OE tne
        have OE := Lib.hid (own_fresh w6 w1.heap.size bq.size)
        have bw := bq.alloc bq.size (.cells #[] 5)
        have G1 := Lib.hid (K1.out.below bw)
        go_wp2_with (at_builtin; go_must (refine wpList_append_bytes rfl _ _ rfl w1.heap.size (.slice (some ⟨w6.heap.size, 0, none⟩) 0 0) [] l rfl OE.out (by simp) (some ⟨bb, bo, none⟩) cb rfl G1.out (by simp; omega) bw.size ?_))
        rintro v7 w7 o7 g7 e7
        have bw7 := bw.grown g7 bw.size OE.out.row
        have O7 := Lib.hid (show OwnB w7 w1.heap.size v7 l from o7)
        clear o7 g7
        obtain ⟨gg, cap2, rfl, hg3, hg4, hcap2, hcell, hfr⟩ := O7.out.at e7
        have c1 := hcell i x CX.out
        have c2 := hcell (i + 1) z CZ.out
        have f1 := hfr i
        have f2 := hfr (i + 1)
        clear hcell hfr
        go_wp2_with fail
        go_region
        have O8 := ((O7.out.set i z).set (i + 1) x)
        have hl8 : ((l.set i z).set (i + 1) x).length = l.length := by rw [List.length_set, List.length_set]
        have hby8 := bytes_set (bytes_set H2.out.byte i hz) (i + 1) hx
        have bw8 : Below w1.heap.size w1 (((w7.setCell ⟨gg, i, none⟩ (.int .u8 (z : Int))).setCell ⟨gg, i + 1, none⟩ (.int .u8 (x : Int))).drew) := ((bw7.setCell (p := ⟨gg, i, none⟩) hg3 _).setCell (p := ⟨gg, i + 1, none⟩) hg3 _).drew
        have hB8 : BytesP (((w7.setCell ⟨gg, i, none⟩ (.int .u8 (z : Int))).setCell ⟨gg, i + 1, none⟩ (.int .u8 (x : Int))).drew) (some ⟨gg, 0, none⟩) cap2 ((l.set i z).set (i + 1) x) := by
          have O9 := O8.below (Below.refl _ _).drew
          rw [← hl8] at O9
          obtain ⟨a', c', e', hb'⟩ := O9.bytes hby8
          injection e' with e1 e2 e3
          subst e1 e3
          exact hb'
        have C8 := of_one hB8 27 w7.heap.size (by simp)
        rw [hl8] at C8
        have HC8 := Lib.hid C8
        have TE := TW.out z CZ.out (by simp at d2; omega)
        clear C8 hB8 hl8 hby8 O8 c1 c2 f1 f2
        generalize crc ((l.set i z).set (i + 1) x) = r3 at *
        have tn2 : ((r3 : Int) != (r2 : Int)) = true := by simpa using TE
        clear TE
        go_wp2_with fail
        refine HC8.out.mono ?_
        rintro e w' ⟨rfl, rfl⟩
        have bw9 := bw8.alloc bw8.size (.cells #[.slice (some ⟨gg, 0, none⟩) l.length cap2] 27)
        go_wp2_with fail
        refine (C1.out _ (K1.out.below bw9) _ (by simp)).mono ?_
        rintro e w' ⟨rfl, rfl⟩
        have bw10 := bw9.alloc bw9.size (.cells #[.slice (some ⟨bb, bo, none⟩) l.length cb] 27)
        have bt2 := b1.trans (bw10.mono b1.size)
        go_wp2_with fail
        go_ret
        exact ⟨rfl, bt2⟩


set_option maxRecDepth 100000 in
theorem checkTurns_lifted (os : Os) (started : os.Started) (H : Type) (enc : TypeId × Value → H) :
    ReturnsInHanded {} Try.checked os 7 .any (Rows.checkTurnsSpec.pre6 enc Try.prog Try.f7 Rows.checkTurnsRow.domain false) (Rows.checkTurnsSpec.post enc Try.prog Try.f7 false true false false) := by
  refine returnsInHanded_of_change (C := Try.checked) own started (by kernel_rfl) Try.func7
    (ChangeSpec.witness6 (enc := enc) (C := Try.checked) false ⟨#[], #[.slice none 0 0, .int .i64 0, .int .u8 0], []⟩ 8 (by kernel_rfl) (by kernel_rfl) (by kernel_rfl) (by kernel_rfl)) ?_
  intro W base args ds gs before hval0 hW _ _
  have hval : ∀ (j : Nat) t v, Try.f7.params[j]? = some t → args[j]? = some v → Value.okWide Try.prog W .any base t v := hval0
  have hW' := hW
  obtain ⟨p, q, hA0, hV, rfl, _, _⟩ := hW
  have hA : DataW.TrodAll enc Try.prog W 0 (fun _ => true) true Try.f7.params.toList args.toList ds p := hA0
  rw [Try.params7] at hA hval
  obtain ⟨v0, vs0, d0, ds0, p0, q_0, hargs, rfl, rfl, h0, r0⟩ := trodAll_cons hA
  obtain ⟨v1, vs1, d1, ds1, p1, q_1, rfl, rfl, rfl, h1, r1⟩ := trodAll_cons r0
  obtain ⟨v2, vs2, d2, ds2, p2, q_2, rfl, rfl, rfl, h2, r2⟩ := trodAll_cons r1
  obtain ⟨rfl, rfl, rfl⟩ := trodAll_nil r2
  obtain rfl : args = #[v0, v1, v2] := by cases args; simp_all
  obtain ⟨rfl, rfl⟩ := trodVars_none hV
  clear hA0 hval0
  simp only [List.append_nil] at hW'
  obtain ⟨q0, cap0, l0, rfl, hS0, hm0⟩ := bytes_of_trod (hval 0 27 v0 rfl rfl) h0
  have hlt0 : ∀ x ∈ p0, x.block < W.heap.size := fun x hx => by simpa using hW'.lt x (by simpa using (by simp [hx]))
  obtain ⟨a1, rfl, rfl, rfl, w1⟩ := open_int Try.underlying3 (hval 1 3 v1 rfl rfl) h1
  obtain ⟨i2, rfl, rfl, rfl, w2⟩ := open_int Try.underlying5 (hval 2 5 v2 rfl rfl) h2
  obtain ⟨a2, rfl, hn2⟩ := nat_of_u8 w2
  refine (turns_walk q0 cap0 l0 a1 a2 W hS0 (bounds_i64 w1) hn2).mono fun e W' ⟨he, hb⟩ => ?_
  subst he
  have hT : DataW.TrodAll enc Try.prog W' 0 (fun b => decide (b < W.heap.size)) true _ _ _ _ := (trodAll_cons_mk (Below.trod laidOut (by kernel_rfl) (of_decide_eq_true (by kernel_rfl)) h0 hb hlt0) (trodAll_cons_mk (shut_int Try.underlying3 w1) (trodAll_cons_mk (shut_int Try.underlying5 w2) trodAll_mk0)))
  simp only [List.append_nil] at hT
  exact ⟨_, rfl, _, _, _, [], p0, [], hW', trodAll_mk1 (shut_bool Try.underlying4 _), hT, rfl, hb.frame _, fun h => by cases h⟩

theorem checkTurns_holds : Rows.CheckTurnsSaid :=
  OpenClaim.holds_of_wide 7 Try.f7 rfl rfl rfl rfl rfl rfl rfl ⟨rfl, rfl, rfl, rfl, rfl⟩ rfl rfl rfl rfl rfl (by kernel_rfl) Try.func7 (by kernel_rfl)
    (of_decide_eq_true (by kernel_rfl)) (by unfold Func.isWrapper; first | (rw [if_pos (by decide +kernel)]; kernel_rfl) | (rw [if_neg (by decide +kernel)]; exact ⟨rfl, rfl⟩))
    (fun os started H enc _ => checkTurns_lifted os started H enc)
#print axioms checkTurns_holds


end Go.Proofs.Ytgelfopjolkfdaa
