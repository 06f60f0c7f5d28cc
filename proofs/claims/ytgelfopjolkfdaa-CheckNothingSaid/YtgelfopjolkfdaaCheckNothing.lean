/- CheckNothing: the law returns true for any two numbers and any bytes: noughts in two pieces are all of them; nothing ahead, or behind, changes nothing. It has no conditions. -/
import Derived.Test.YtgelfopjolkfdaaArgs
namespace Go.Proofs.Ytgelfopjolkfdaa
open Go.ChangeShapes Go.WideShapes Go.ChangeAt Go.RowKit

theorem lists_mid {W : World} {b : Option Addr} {cb : Nat} {l : List Nat} (h2 : BytesP W b cb l) (T : TypeId) (N : Nat) (hN : W.heap.size = N) :
    Calls Try.prog 10 #[.slice (some ⟨N, 0, none⟩) 3 3] (W.alloc (.cells #[.slice none 0 0, .slice b l.length cb, .slice none 0 0] T)) (Num (crc l) (W.alloc (.cells #[.slice none 0 0, .slice b l.length cb, .slice none 0 0] T))) := by
  have := of_three (BytesP.nil W none 0) h2 (BytesP.nil W none 0) T N hN
  rw [List.nil_append, List.append_nil] at this
  exact this

set_option maxHeartbeats 4000000 in
theorem nothing_walk (n m : Int) (b : Option Addr) (cb : Nat) (l : List Nat) (w : World) (h2 : BytesP w b cb l) (hn : -9223372036854775808 ≤ n ∧ n ≤ 9223372036854775807) (hm : -9223372036854775808 ≤ m ∧ m ≤ 9223372036854775807) :
    Calls Try.prog 8 #[.int .i64 n, .int .i64 m, .slice b l.length cb] w (TrueB w) := by
  have H2 := Lib.hid h2
  clear h2
  obtain ⟨hn0, hn1⟩ := hn
  obtain ⟨hm0, hm1⟩ := hm
  cases t0 : decide (n < 0) with
  | true =>
    go_enter Try.func8, Try.ntmps8
    go_wp2_with fail
    refine (alive_any _).mono ?_
    rintro e w1 ⟨rfl, b1⟩
    go_wp2_with fail
    go_ret
    exact ⟨rfl, b1⟩
  | false =>
  cases t1 : decide (m < 0) with
  | true =>
    go_enter Try.func8, Try.ntmps8
    go_wp2_with fail
    refine (alive_any _).mono ?_
    rintro e w1 ⟨rfl, b1⟩
    go_wp2_with fail
    go_ret
    exact ⟨rfl, b1⟩
  | false =>
  cases t2 : decide (1099511627776 < n) with
  | true =>
    go_enter Try.func8, Try.ntmps8
    go_wp2_with fail
    refine (alive_any _).mono ?_
    rintro e w1 ⟨rfl, b1⟩
    go_wp2_with fail
    go_ret
    exact ⟨rfl, b1⟩
  | false =>
  cases t3 : decide (1099511627776 < m) with
  | true =>
    go_enter Try.func8, Try.ntmps8
    go_wp2_with fail
    refine (alive_any _).mono ?_
    rintro e w1 ⟨rfl, b1⟩
    go_wp2_with fail
    go_ret
    exact ⟨rfl, b1⟩
  | false =>
  cases t4 : decide (1000 < (l.length : Int)) with
  | true =>
    go_enter Try.func8, Try.ntmps8
    go_wp2_with fail
    refine (alive_any _).mono ?_
    rintro e w1 ⟨rfl, b1⟩
    go_wp2_with fail
    go_ret
    exact ⟨rfl, b1⟩
  | false =>
    have q0 : 0 ≤ n := by simp at t0; omega
    have q1 : 0 ≤ m := by simp at t1; omega
    have q2 : n ≤ 1099511627776 := by simp at t2; omega
    have q3 : m ≤ 1099511627776 := by simp at t3; omega
    have q4 : l.length ≤ 1000 := by simp at t4; omega
    obtain ⟨x, rfl⟩ := Int.eq_ofNat_of_zero_le q0
    obtain ⟨y, rfl⟩ := Int.eq_ofNat_of_zero_le q1
    have C1 := Lib.hid (fun W => noughts_len x W (by omega))
    have C2 := Lib.hid (fun W => noughts_len y W (by omega))
    have C3 := Lib.hid (fun W => join_len (noughts x) (noughts y) y W (noughts_lt x) (noughts_lt y) (by omega))
    have C4 := Lib.hid (fun W => noughts_len (x + y) W (by omega))
    have C5 := Lib.hid (fun W (h : BytesP W b cb l) => lists_mid h 27)
    have C6 := Lib.hid (fun W (h : BytesP W b cb l) => of_one h 27)
    have C7 := Lib.hid (fun W => join_len 0 (crc l) l.length W (by decide) (crc_lt H2.out.byte) (by omega))
    rw [join_noughts] at C3
    rw [join_nothing, show ((0 : Nat) : Int) = 0 from rfl] at C7
    rw [show ((x + y : Nat) : Int) = (x : Int) + (y : Int) by omega] at C4
    generalize noughts (x + y) = p at *
    generalize noughts x = px at *
    generalize noughts y = py at *
    generalize crc l = r at *
    go_enter Try.func8, Try.ntmps8
    go_wp2_with fail
    refine (alive_any _).mono ?_
    rintro e w1 ⟨rfl, b1⟩
    go_wp2_with fail
    refine (C1.out _).mono ?_
    rintro e w2 ⟨rfl, b⟩
    have b2 := b1.trans (b.mono b1.size)
    clear b
    go_wp2_with fail
    refine (C2.out _).mono ?_
    rintro e w3 ⟨rfl, b⟩
    have b3 := b2.trans (b.mono b2.size)
    clear b
    go_wp2_with fail
    refine (C3.out _).mono ?_
    rintro e w4 ⟨rfl, b⟩
    have b4 := b3.trans (b.mono b3.size)
    clear b
    go_wp2_with fail
    refine (C4.out _).mono ?_
    rintro e w5 ⟨rfl, b⟩
    have b5 := b4.trans (b.mono b4.size)
    clear b
    go_wp2_with fail
    refine (C5.out _ (H2.out.below b5) _ (by simp)).mono ?_
    rintro e w' ⟨rfl, rfl⟩
    have b6 := b5.alloc b5.size (.cells #[.slice none 0 0, .slice b l.length cb, .slice none 0 0] 27)
    go_wp2_with fail
    refine (C6.out _ (H2.out.below b6) _ (by simp)).mono ?_
    rintro e w' ⟨rfl, rfl⟩
    have b7 := b6.alloc b6.size (.cells #[.slice b l.length cb] 27)
    go_wp2_with fail
    refine (C6.out _ (H2.out.below b7) _ (by simp)).mono ?_
    rintro e w' ⟨rfl, rfl⟩
    have b8 := b7.alloc b7.size (.cells #[.slice b l.length cb] 27)
    go_wp2_with fail
    refine (C7.out _).mono ?_
    rintro e w9 ⟨rfl, b⟩
    have b9 := b8.trans (b.mono b8.size)
    clear b
    go_wp2_with fail
    refine (C6.out _ (H2.out.below b9) _ (by simp)).mono ?_
    rintro e w' ⟨rfl, rfl⟩
    have b10 := b9.alloc b9.size (.cells #[.slice b l.length cb] 27)
    go_wp2_with fail
    go_ret
    exact ⟨rfl, b10⟩


set_option maxRecDepth 100000 in
theorem checkNothing_lifted (os : Os) (started : os.Started) (H : Type) (enc : TypeId × Value → H) :
    ReturnsInHanded {} Try.checked os 8 .any (Rows.checkNothingSpec.pre6 enc Try.prog Try.f8 Rows.checkNothingRow.domain false) (Rows.checkNothingSpec.post enc Try.prog Try.f8 false true false false) := by
  refine returnsInHanded_of_change (C := Try.checked) own started (by kernel_rfl) Try.func8
    (ChangeSpec.witness6 (enc := enc) (C := Try.checked) false ⟨#[], #[.int .i64 0, .int .i64 0, .slice none 0 0], []⟩ 8 (by kernel_rfl) (by kernel_rfl) (by kernel_rfl) (by kernel_rfl)) ?_
  intro W base args ds gs before hval0 hW _ _
  have hval : ∀ (j : Nat) t v, Try.f8.params[j]? = some t → args[j]? = some v → Value.okWide Try.prog W .any base t v := hval0
  have hW' := hW
  obtain ⟨p, q, hA0, hV, rfl, _, _⟩ := hW
  have hA : DataW.TrodAll enc Try.prog W 0 (fun _ => true) true Try.f8.params.toList args.toList ds p := hA0
  rw [Try.params8] at hA hval
  obtain ⟨v0, vs0, d0, ds0, p0, q_0, hargs, rfl, rfl, h0, r0⟩ := trodAll_cons hA
  obtain ⟨v1, vs1, d1, ds1, p1, q_1, rfl, rfl, rfl, h1, r1⟩ := trodAll_cons r0
  obtain ⟨v2, vs2, d2, ds2, p2, q_2, rfl, rfl, rfl, h2, r2⟩ := trodAll_cons r1
  obtain ⟨rfl, rfl, rfl⟩ := trodAll_nil r2
  obtain rfl : args = #[v0, v1, v2] := by cases args; simp_all
  obtain ⟨rfl, rfl⟩ := trodVars_none hV
  clear hA0 hval0
  simp only [List.append_nil] at hW'
  obtain ⟨a0, rfl, rfl, rfl, w0⟩ := open_int Try.underlying3 (hval 0 3 v0 rfl rfl) h0
  obtain ⟨a1, rfl, rfl, rfl, w1⟩ := open_int Try.underlying3 (hval 1 3 v1 rfl rfl) h1
  obtain ⟨q2, cap2, l2, rfl, hS2, hm2⟩ := bytes_of_trod (hval 2 27 v2 rfl rfl) h2
  have hlt2 : ∀ x ∈ p2, x.block < W.heap.size := fun x hx => by simpa using hW'.lt x (by simpa using (by simp [hx]))
  refine (nothing_walk a0 a1 q2 cap2 l2 W hS2 (bounds_i64 w0) (bounds_i64 w1)).mono fun e W' ⟨he, hb⟩ => ?_
  subst he
  have hT : DataW.TrodAll enc Try.prog W' 0 (fun b => decide (b < W.heap.size)) true _ _ _ _ := (trodAll_cons_mk (shut_int Try.underlying3 w0) (trodAll_cons_mk (shut_int Try.underlying3 w1) (trodAll_cons_mk (Below.trod laidOut (by kernel_rfl) (of_decide_eq_true (by kernel_rfl)) h2 hb hlt2) trodAll_mk0)))
  simp only [List.append_nil] at hT
  exact ⟨_, rfl, _, _, _, [], p2, [], hW', trodAll_mk1 (shut_bool Try.underlying4 _), hT, rfl, hb.frame _, fun h => by cases h⟩

theorem checkNothing_holds : Rows.CheckNothingSaid :=
  OpenClaim.holds_of_wide 8 Try.f8 rfl rfl rfl rfl rfl rfl rfl ⟨rfl, rfl, rfl, rfl, rfl⟩ rfl rfl rfl rfl rfl (by kernel_rfl) Try.func8 (by kernel_rfl)
    (of_decide_eq_true (by kernel_rfl)) (by unfold Func.isWrapper; first | (rw [if_pos (by decide +kernel)]; kernel_rfl) | (rw [if_neg (by decide +kernel)]; exact ⟨rfl, rfl⟩))
    (fun os started H enc _ => checkNothing_lifted os started H enc)
#print axioms checkNothing_holds


end Go.Proofs.Ytgelfopjolkfdaa
