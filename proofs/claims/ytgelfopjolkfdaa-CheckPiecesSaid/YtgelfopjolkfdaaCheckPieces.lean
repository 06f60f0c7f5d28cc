/- CheckPieces: the law returns true for any three lists of bytes: that of two pieces together is joined of both, in whichever way three are joined. It has no conditions. -/
import Derived.Test.YtgelfopjolkfdaaArgs
namespace Go.Proofs.Ytgelfopjolkfdaa
open Go.ChangeShapes Go.WideShapes Go.ChangeAt Go.RowKit

theorem pieces_true (k l m : List Nat) : join (join (crc k) (crc l) l.length) (crc m) m.length = crc (k ++ (l ++ m)) := by
  rw [join_crc, join_crc, List.append_assoc]

set_option maxHeartbeats 4000000 in
theorem pieces_walk (a b c : Option Addr) (ca cb cc : Nat) (k l m : List Nat) (w : World) (h1 : BytesP w a ca k) (h2 : BytesP w b cb l) (h3 : BytesP w c cc m) :
    Calls Try.prog 6 #[.slice a k.length ca, .slice b l.length cb, .slice c m.length cc] w (TrueB w) := by
  have H1 := Lib.hid h1
  have H2 := Lib.hid h2
  have H3 := Lib.hid h3
  clear h1 h2 h3
  cases t1 : decide (1000 < (k.length : Int)) with
  | true =>
    go_enter Try.func6, Try.ntmps6
    go_wp2_with fail
    refine (alive_any _).mono ?_
    rintro e w1 ⟨rfl, b1⟩
    go_wp2_with fail
    go_ret
    exact ⟨rfl, b1⟩
  | false =>
  cases t2 : decide (1000 < (l.length : Int)) with
  | true =>
    go_enter Try.func6, Try.ntmps6
    go_wp2_with fail
    refine (alive_any _).mono ?_
    rintro e w1 ⟨rfl, b1⟩
    go_wp2_with fail
    go_ret
    exact ⟨rfl, b1⟩
  | false =>
  cases t3 : decide (1000 < (m.length : Int)) with
  | true =>
    go_enter Try.func6, Try.ntmps6
    go_wp2_with fail
    refine (alive_any _).mono ?_
    rintro e w1 ⟨rfl, b1⟩
    go_wp2_with fail
    go_ret
    exact ⟨rfl, b1⟩
  | false =>
    have n1 : k.length ≤ 1000 := by simp at t1; omega
    have n2 : l.length ≤ 1000 := by simp at t2; omega
    have n3 : m.length ≤ 1000 := by simp at t3; omega
    have C1 := Lib.hid (fun W (h : BytesP W a ca k) => of_one h 27)
    have C2 := Lib.hid (fun W (h : BytesP W b cb l) => of_one h 27)
    have C3 := Lib.hid (fun W (h : BytesP W c cc m) => of_one h 27)
    have C4 := Lib.hid (fun W (h1 : BytesP W a ca k) (h2 : BytesP W b cb l) (h3 : BytesP W c cc m) => of_three h1 h2 h3 27)
    have x1 := crc_lt H1.out.byte
    have x2 := crc_lt H2.out.byte
    have x3 := crc_lt H3.out.byte
    have E := pieces_true k l m
    generalize crc (k ++ (l ++ m)) = r at *
    generalize crc k = x at *
    generalize crc l = y at *
    generalize crc m = z at *
    have J1 := Lib.hid (fun W => join_len x y l.length W x1 x2 (by omega))
    have p1 := join_lt l.length x1 x2
    have J2 := Lib.hid (fun W => join_len _ z m.length W p1 x3 (by omega))
    have J3 := Lib.hid (fun W => join_len y z m.length W x2 x3 (by omega))
    have p3 := join_lt m.length x2 x3
    have J4 := Lib.hid (fun W => join_len x _ (l.length + m.length) W x1 p3 (by omega))
    rw [← join_join x y z l.length m.length, E] at J4
    rw [E] at J2
    rw [show ((l.length + m.length : Nat) : Int) = (l.length : Int) + (m.length : Int) by omega] at J4
    generalize join x y l.length = p at *
    generalize join y z m.length = q at *
    clear E
    go_enter Try.func6, Try.ntmps6
    go_wp2_with fail
    refine (alive_any _).mono ?_
    rintro e w1 ⟨rfl, b1⟩
    go_wp2_with fail
    refine (C1.out _ (H1.out.below b1) _ (by simp)).mono ?_
    rintro e w' ⟨rfl, rfl⟩
    have b2 := b1.alloc b1.size (.cells #[.slice a k.length ca] 27)
    go_wp2_with fail
    refine (C2.out _ (H2.out.below b2) _ (by simp)).mono ?_
    rintro e w' ⟨rfl, rfl⟩
    have b3 := b2.alloc b2.size (.cells #[.slice b l.length cb] 27)
    go_wp2_with fail
    refine (C3.out _ (H3.out.below b3) _ (by simp)).mono ?_
    rintro e w' ⟨rfl, rfl⟩
    have b4 := b3.alloc b3.size (.cells #[.slice c m.length cc] 27)
    go_wp2_with fail
    refine (J1.out _).mono ?_
    rintro e w5 ⟨rfl, b⟩
    have b5 := b4.trans (b.mono b4.size)
    clear b
    go_wp2_with fail
    refine (J2.out _).mono ?_
    rintro e w6 ⟨rfl, b⟩
    have b6 := b5.trans (b.mono b5.size)
    clear b
    go_wp2_with fail
    refine (J3.out _).mono ?_
    rintro e w7 ⟨rfl, b⟩
    have b7 := b6.trans (b.mono b6.size)
    clear b
    go_wp2_with fail
    refine (J4.out _).mono ?_
    rintro e w8 ⟨rfl, b⟩
    have b8 := b7.trans (b.mono b7.size)
    clear b
    go_wp2_with fail
    refine (C4.out _ (H1.out.below b8) (H2.out.below b8) (H3.out.below b8) _ rfl).mono ?_
    rintro e w' ⟨rfl, rfl⟩
    go_wp2_with fail
    go_ret
    exact ⟨rfl, b8.alloc b8.size _⟩


set_option maxRecDepth 100000 in
theorem checkPieces_lifted (os : Os) (started : os.Started) (H : Type) (enc : TypeId × Value → H) :
    ReturnsInHanded {} Try.checked os 6 .any (Rows.checkPiecesSpec.pre6 enc Try.prog Try.f6 Rows.checkPiecesRow.domain false) (Rows.checkPiecesSpec.post enc Try.prog Try.f6 false true false false) := by
  refine returnsInHanded_of_change (C := Try.checked) own started (by kernel_rfl) Try.func6
    (ChangeSpec.witness6 (enc := enc) (C := Try.checked) false ⟨#[], #[.slice none 0 0, .slice none 0 0, .slice none 0 0], []⟩ 8 (by kernel_rfl) (by kernel_rfl) (by kernel_rfl) (by kernel_rfl)) ?_
  intro W base args ds gs before hval0 hW _ _
  have hval : ∀ (j : Nat) t v, Try.f6.params[j]? = some t → args[j]? = some v → Value.okWide Try.prog W .any base t v := hval0
  have hW' := hW
  obtain ⟨p, q, hA0, hV, rfl, _, _⟩ := hW
  have hA : DataW.TrodAll enc Try.prog W 0 (fun _ => true) true Try.f6.params.toList args.toList ds p := hA0
  rw [Try.params6] at hA hval
  obtain ⟨v0, vs0, d0, ds0, p0, q_0, hargs, rfl, rfl, h0, r0⟩ := trodAll_cons hA
  obtain ⟨v1, vs1, d1, ds1, p1, q_1, rfl, rfl, rfl, h1, r1⟩ := trodAll_cons r0
  obtain ⟨v2, vs2, d2, ds2, p2, q_2, rfl, rfl, rfl, h2, r2⟩ := trodAll_cons r1
  obtain ⟨rfl, rfl, rfl⟩ := trodAll_nil r2
  obtain rfl : args = #[v0, v1, v2] := by cases args; simp_all
  obtain ⟨rfl, rfl⟩ := trodVars_none hV
  clear hA0 hval0
  simp only [List.append_nil] at hW'
  obtain ⟨q0, cap0, l0, rfl, hS0, hm0⟩ := bytes_of_trod (hval 0 27 v0 rfl rfl) h0
  have hlt0 : ∀ x ∈ p0, x.block < W.heap.size := fun x hx => by simpa using hW'.lt x (by simpa using (by simp [hx]))
  obtain ⟨q1, cap1, l1, rfl, hS1, hm1⟩ := bytes_of_trod (hval 1 27 v1 rfl rfl) h1
  have hlt1 : ∀ x ∈ p1, x.block < W.heap.size := fun x hx => by simpa using hW'.lt x (by simpa using (by simp [hx]))
  obtain ⟨q2, cap2, l2, rfl, hS2, hm2⟩ := bytes_of_trod (hval 2 27 v2 rfl rfl) h2
  have hlt2 : ∀ x ∈ p2, x.block < W.heap.size := fun x hx => by simpa using hW'.lt x (by simpa using (by simp [hx]))
  refine (pieces_walk q0 q1 q2 cap0 cap1 cap2 l0 l1 l2 W hS0 hS1 hS2).mono fun e W' ⟨he, hb⟩ => ?_
  subst he
  have hT : DataW.TrodAll enc Try.prog W' 0 (fun b => decide (b < W.heap.size)) true _ _ _ _ := (trodAll_cons_mk (Below.trod laidOut (by kernel_rfl) (of_decide_eq_true (by kernel_rfl)) h0 hb hlt0) (trodAll_cons_mk (Below.trod laidOut (by kernel_rfl) (of_decide_eq_true (by kernel_rfl)) h1 hb hlt1) (trodAll_cons_mk (Below.trod laidOut (by kernel_rfl) (of_decide_eq_true (by kernel_rfl)) h2 hb hlt2) trodAll_mk0)))
  simp only [List.append_nil] at hT
  exact ⟨_, rfl, _, _, _, [], p0 ++ (p1 ++ (p2)), [], hW', trodAll_mk1 (shut_bool Try.underlying4 _), hT, rfl, hb.frame _, fun h => by cases h⟩

theorem checkPieces_holds : Rows.CheckPiecesSaid :=
  OpenClaim.holds_of_wide 6 Try.f6 rfl rfl rfl rfl rfl rfl rfl ⟨rfl, rfl, rfl, rfl, rfl⟩ rfl rfl rfl rfl rfl (by kernel_rfl) Try.func6 (by kernel_rfl)
    (of_decide_eq_true (by kernel_rfl)) (by unfold Func.isWrapper; first | (rw [if_pos (by decide +kernel)]; kernel_rfl) | (rw [if_neg (by decide +kernel)]; exact ⟨rfl, rfl⟩))
    (fun os started H enc _ => checkPieces_lifted os started H enc)
#print axioms checkPieces_holds


end Go.Proofs.Ytgelfopjolkfdaa
