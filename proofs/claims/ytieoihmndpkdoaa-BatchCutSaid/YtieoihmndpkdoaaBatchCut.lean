/- BatchCut: the law returns true for any two batches and any number: a batch's bytes, cut off anywhere, are none; two batches have the same bytes just where they are the same. It has no conditions. -/
import Derived.Test.YtieoihmndpkdoaaBtAlive
import Derived.Test.YtieoihmndpkdoaaBtRight
import Derived.Test.YtieoihmndpkdoaaBtSame
import Derived.Test.YtieoihmndpkdoaaBtArgs
import Derived.Test.YtieoihmndpkdoaaBtPut
import Derived.Test.YtieoihmndpkdoaaBtTake
namespace Go.Proofs.Ytieoihmndpkdoaa
open Go.ChangeShapes Go.WideShapes Go.ChangeAt Go.RowKit

set_option maxRecDepth 100000
attribute [local go_sem ↓] ldBt stBt alBt bxBt ldCp bxCp
attribute [local go_sem] al_bt bx_bt bx_cp alloc_setRow

/-- What came in: two batches, each in a variable. -/
structure TwoI (w : World) (a b : Option Addr) (ca cb : Nat) (x y : Bt) (W : World) : Prop where
  one : Vp W w.heap.size a ca x
  two : Vp W (w.heap.size + 1) b cb y
  low : Below w.heap.size w W
theorem TwoI.below {w W W' : World} {a b : Option Addr} {ca cb : Nat} {x y : Bt} (h : TwoI w a b ca cb x y W) (k : Below W.heap.size W W') : TwoI w a b ca cb x y W' := ⟨h.one.below k, h.two.below k, h.low.trans (k.mono h.low.size)⟩
theorem TwoI.new {w : World} {a b : Option Addr} {ca cb : Nat} {x y : Bt} (h1 : BtP w a ca x) (h2 : BtP w b cb y) : TwoI w a b ca cb x y ((w.alloc (.cells (btC a ca x) 28)).alloc (.cells (btC b cb y) 28)) := by
  have b1 : Below w.heap.size w (w.alloc (.cells (btC a ca x) 28)) := (Below.refl _ _).alloc (Nat.le_refl _) _
  have b2 : Below (w.alloc (.cells (btC a ca x) 28)).heap.size (w.alloc (.cells (btC a ca x) 28)) ((w.alloc (.cells (btC a ca x) 28)).alloc (.cells (btC b cb y) 28)) := (Below.refl _ _).alloc (Nat.le_refl _) _
  have e1 : (w.alloc (.cells (btC a ca x) 28)).heap.size = w.heap.size + 1 := by simp
  have v2 := Vp.new (h2.below b1)
  rw [e1] at v2
  exact ⟨(Vp.new h1).below b2, v2, b1.trans (b2.mono b1.size)⟩

set_option maxHeartbeats 8000000 in
theorem cut_walk (a b : Option Addr) (ca cb : Nat) (x y : Bt) (n : Int) (w : World) (h1 : BtP w a ca x) (h2 : BtP w b cb y) : Calls Try.prog 9 #[btV a ca x, btV b cb y, .int .i64 n] w (Tell true w) := by
  have K0 := Lib.hid (TwoI.new h1 h2)
  clear h1 h2
  have CR1 := Lib.hid (fun W (h : TwoI w a b ca cb x y W) => btRight_any a ca x W h.one.bt)
  have CR2 := Lib.hid (fun W (h : TwoI w a b ca cb x y W) => btRight_any b cb y W h.two.bt)
  have CS := Lib.hid (fun W (h : TwoI w a b ca cb x y W) => btSame_any a b ca cb x y W h.one.bt h.two.bt)
  go_enter Try.func9, Try.ntmps9
  go_wp2_with fail
  generalize (w.alloc (.cells (btC a ca x) 28)).alloc (.cells (btC b cb y) 28) = W0 at *
  refine (alive_any _).mono ?_
  rintro e W1 ⟨rfl, b1⟩
  have K1 := Lib.hid (K0.out.below b1)
  clear b1 K0
  have l1 := ld_bt K1.out.one.var.row
  have l2 := ld_bt K1.out.two.var.row
  go_wp2_with fail
  refine (CR1.out _ K1.out).mono ?_
  rintro e W2 ⟨rfl, b2⟩
  have K2 := Lib.hid (K1.out.below b2)
  clear b2 K1 l1 l2
  cases hx : rightBt x with
  | false =>
    go_wp2_with fail
    go_ret
    exact ⟨rfl, K2.out.low⟩
  | true =>
    have l2 := ld_bt K2.out.two.var.row
    go_wp2_with fail
    refine (CR2.out _ K2.out).mono ?_
    rintro e W3 ⟨rfl, b3⟩
    have K3 := Lib.hid (K2.out.below b3)
    clear b3 K2 l2
    cases hy : rightBt y with
    | false =>
      go_wp2_with fail
      go_ret
      exact ⟨rfl, K3.out.low⟩
    | true =>
      by_cases hn : n < 0
      · go_wp2_with fail
        go_ret
        exact ⟨rfl, K3.out.low⟩
      · obtain ⟨k, rfl⟩ : ∃ k : Nat, n = (k : Int) := ⟨n.toNat, by omega⟩
        clear hn
        have PX := Lib.hid (fun W (h : TwoI w a b ca cb x y W) => btPut_any none a 0 ca [] x W (BytesP.nil _ _ _) h.one.bt.mem hx (by simp))
        have PY := Lib.hid (fun W (h : TwoI w a b ca cb x y W) => btPut_any none b 0 cb [] y W (BytesP.nil _ _ _) h.two.bt.mem hy (by simp))
        have HX := Lib.hid (batchL_bytes x)
        have HY := Lib.hid (batchL_bytes y)
        have lx := Lib.hid (batchL_len hx)
        have HS := Lib.hid (show batchL x = batchL y ↔ sameBt x y = true from ⟨fun e => (sameBt_iff _ _).2 (batch_same hx hy e), fun e => by rw [(sameBt_iff _ _).1 e]⟩)
        have HT := Lib.hid (fun (h : k < (batchL x).length) => takeBV_cut hx h)
        simp only [List.nil_append, List.length_nil] at PX PY
        clear hx hy CR1 CR2
        generalize batchL x = lX at *
        generalize batchL y = lY at *
        have kd := K3.out.below (below_drew W3)
        have ld1 : ∀ W, TwoI w a b ca cb x y W → LdX 28 (.pointer (some ⟨w.heap.size, 0, none⟩)) W = .ok (.value (btV a ca x)) W := fun W h => ld_bt h.one.var.row
        have ld2 : ∀ W, TwoI w a b ca cb x y W → LdX 28 (.pointer (some ⟨w.heap.size + 1, 0, none⟩)) W = .ok (.value (btV b cb y)) W := fun W h => ld_bt h.two.var.row
        have k3 := K3.out
        go_wp2_with fail
        go_cut [7, 8] (fun v7 v8 wx => ∃ a7 c7 a8 c8, v7 = .slice a7 lX.length c7 ∧ v8 = .slice a8 lY.length c8 ∧ Hid (BytesP wx a7 c7 lX) ∧ Hid (BytesP wx a8 c8 lY) ∧ Hid (TwoI w a b ca cb x y wx))
        case first =>
          go_region_law (first
            | ((try go_simp); go_at_call 27; refine (PY.out _ k4).mono ?_; rintro e w5 ⟨v5, rfl, o5, b5⟩; obtain ⟨a5, c5, e5, h5⟩ := o5.bytes HY.out; subst e5; have k5 := TwoI.below k4 b5; have h6 := BytesP.below h4 b5)
            | ((try go_simp); go_at_call 27; refine (PX.out _ kd).mono ?_; rintro e w4 ⟨v4, rfl, o4, b4⟩; obtain ⟨a4, c4, e4, h4⟩ := o4.bytes HX.out; subst e4; have k4 := TwoI.below kd b4))
          all_goals
            go_wp2_with fail
            go_meet
            exact ⟨_, _, _, _, rfl, rfl, Lib.hid h6, Lib.hid h5, Lib.hid k5⟩
        case rest =>
          obtain ⟨a7, c7, a8, c8, rfl, rfl, B7, B8, K6⟩ := hcut
          clear kd k3 K3 PX PY ld1 ld2
          obtain ⟨sx, hsx⟩ : ∃ s, strB lX = s := ⟨_, rfl⟩
          obtain ⟨sy, hsy⟩ : ∃ s, strB lY = s := ⟨_, rfl⟩
          obtain ⟨r, hr⟩ : ∃ r, sameBt x y = r := ⟨_, rfl⟩
          have hst : (sx.toList == sy.toList) = r := by
            rw [← hr, Bool.eq_iff_iff, toList_iff, ← HS.out, ← hsx, ← hsy]
            exact ⟨fun e => strB_inj HX.out HY.out e, fun e => by rw [e]⟩
          have tx : ∀ W, BytesP W a7 c7 lX → (convert 48 9 (.slice a7 lX.length c7)).run Try.prog W = .ok (.string sx) W := fun W h => by rw [← hsx]; exact run_text h
          have ty : ∀ W, BytesP W a8 c8 lY → (convert 48 9 (.slice a8 lY.length c8)).run Try.prog W = .ok (.string sy) W := fun W h => by rw [← hsy]; exact run_text h
          rw [hr] at CS
          clear hsx hsy hr HS
          have kd := K6.out.below (below_drew wc)
          have hd7 := B7.out.below (below_drew wc)
          have hd8 := B8.out.below (below_drew wc)
          have ld1 : ∀ W, TwoI w a b ca cb x y W → LdX 28 (.pointer (some ⟨w.heap.size, 0, none⟩)) W = .ok (.value (btV a ca x)) W := fun W h => ld_bt h.one.var.row
          have ld2 : ∀ W, TwoI w a b ca cb x y W → LdX 28 (.pointer (some ⟨w.heap.size + 1, 0, none⟩)) W = .ok (.value (btV b cb y)) W := fun W h => ld_bt h.two.var.row
          go_wp2_with fail
          go_cut [37] (fun v wx => v = .bool false ∧ Hid (BytesP wx a7 c7 lX) ∧ Hid (Below w.heap.size w wx))
          case first =>
            go_region_law (first
              | ((try go_simp); go_at_call 19; refine (CS.out _ kd).mono ?_; rintro e w6 ⟨rfl, b6⟩; have k6 := kd.below b6; have h7 := hd7.below b6; have h8 := hd8.below b6))
            all_goals
              go_wp2_with fail
              go_meet
              exact ⟨by simp, Lib.hid h7, Lib.hid k6.low⟩
          case rest =>
            obtain ⟨rfl, B9, L9⟩ := hcut
            clear kd hd7 hd8 ld1 ld2 tx ty hst K6 B7 B8 CS
            by_cases hk : lX.length ≤ k
            · go_wp2_with fail
              go_ret
              exact ⟨rfl, L9.out⟩
            · obtain ⟨a9, c9, s9, k9⟩ := slice_to B9.out.cap k (k : Int) rfl (by omega)
              have H9 := Lib.hid (k9 wc B9.out)
              have HTT := Lib.hid (HT.out (by omega))
              have CN := Lib.hid (new_any a9 c9 (lX.take k) wc H9.out (by rw [List.length_take]; have := lx.out; omega))
              obtain ⟨T1, T2⟩ : takeBO (some (lX.take k)) = noBt ∧ (takeBV (some (lX.take k))).isSome = false := by unfold takeBO; rw [HTT.out]; exact ⟨rfl, rfl⟩
              generalize lX.take k = d at *
              go_wp2_with fail
              refine CN.out.mono ?_
              rintro e w7 ⟨g, rfl, r7, b7, hg7⟩
              have R7 : Hid (RdS w7 g (some d)) := Lib.hid (.inr ⟨d, 0, rfl, r7⟩)
              have L7 := Lib.hid (L9.out.trans (b7.mono L9.out.size))
              have hgw : w.heap.size ≤ g := Nat.le_trans L9.out.size hg7
              have CT := Lib.hid (btTake_any w7 g (some d) R7.out)
              unfold TakeBt at CT
              rw [T1, T2] at CT
              clear CN s9 k9 H9 B9 r7 b7 T1 T2 HTT
              go_wp2_with fail
              refine CT.out.mono ?_
              rintro e w8 ⟨a8, c8, rfl, o8, r8, b8⟩
              have N8 := Lib.hid (Vb.new o8.reads.2)
              have L8 := Lib.hid (L7.out.trans (b8.below hgw L7.out.size))
              have ld1 := ld_bt N8.out.row
              have CZ := Lib.hid (show Calls Try.prog 19 #[btV a8 c8 noBt, .agg #[.int .i64 0, .int .i64 0, .int .i64 0, .int .i64 0, .int .i64 0, .string ⟨#[]⟩, .string ⟨#[]⟩, .string ⟨#[]⟩, .slice none 0 0]] (w8.alloc (.cells (btC a8 c8 noBt) 28)) (Tell true (w8.alloc (.cells (btC a8 c8 noBt) 28))) by
                have := btSame_any a8 none c8 0 noBt noBt (w8.alloc (.cells (btC a8 c8 noBt) 28)) (btP_of N8.out.mem fits_no) (btP_of (StrsP.nil _ _ _) fits_no)
                rw [sameBt_self] at this
                exact this)
              clear CT o8 r8 b8 L7 R7
              have LA := Lib.hid (L8.out.alloc L8.out.size (.cells (btC a8 c8 noBt) 28))
              have sa : ∀ W : World, Slot (W.alloc (.cells zB 28)) W.heap.size := fun W => Slot.new W
              have st : ∀ (W : World) g a cap x, Slot W g → StX 28 (.pointer (some ⟨g, 0, none⟩)) (btV a cap x) W = .ok .skip (W.setRow g (btC a cap x)) := fun W g a cap x h => h.store a cap x
              generalize noBt = z at *
              go_wp2_with fail
              refine CZ.out.mono ?_
              rintro e w10 ⟨rfl, b10⟩
              have L10 := Lib.hid (LA.out.trans (b10.mono LA.out.size))
              clear b10
              go_wp2_with fail
              go_ret
              exact ⟨rfl, L10.out⟩


set_option maxRecDepth 100000 in
theorem batchCut_lifted (os : Os) (started : os.Started) (H : Type) (enc : TypeId × Value → H) :
    ReturnsInHanded {} Try.checked os 9 .any (Rows.batchCutSpec.pre6 enc Try.prog Try.f9 Rows.batchCutRow.domain false) (Rows.batchCutSpec.post enc Try.prog Try.f9 false true false false) := by
  refine returnsInHanded_of_change (C := Try.checked) own started (by kernel_rfl) Try.func9
    (ChangeSpec.witness6 (enc := enc) (C := Try.checked) false ⟨#[], #[.agg #[.int .i64 0, .int .i64 0, .int .i64 0, .int .i64 0, .int .i64 0, .string ⟨#[]⟩, .string ⟨#[]⟩, .string ⟨#[]⟩, .slice none 0 0], .agg #[.int .i64 0, .int .i64 0, .int .i64 0, .int .i64 0, .int .i64 0, .string ⟨#[]⟩, .string ⟨#[]⟩, .string ⟨#[]⟩, .slice none 0 0], .int .i64 0], []⟩ 8 (by kernel_rfl) (by kernel_rfl) (by kernel_rfl) (by kernel_rfl)) ?_
  intro W base args ds gs before hval0 hW _ _
  have hval : ∀ (j : Nat) t v, Try.f9.params[j]? = some t → args[j]? = some v → Value.okWide Try.prog W .any base t v := hval0
  have hW' := hW
  obtain ⟨p, q, hA0, hV, rfl, _, _⟩ := hW
  have hA : DataW.TrodAll enc Try.prog W 0 (fun _ => true) true Try.f9.params.toList args.toList ds p := hA0
  rw [Try.params9] at hA hval
  obtain ⟨v0, vs0, d0, ds0, p0, q_0, hargs, rfl, rfl, h0, r0⟩ := trodAll_cons hA
  obtain ⟨v1, vs1, d1, ds1, p1, q_1, rfl, rfl, rfl, h1, r1⟩ := trodAll_cons r0
  obtain ⟨v2, vs2, d2, ds2, p2, q_2, rfl, rfl, rfl, h2, r2⟩ := trodAll_cons r1
  obtain ⟨rfl, rfl, rfl⟩ := trodAll_nil r2
  obtain rfl : args = #[v0, v1, v2] := by cases args; simp_all
  obtain ⟨rfl, rfl⟩ := trodVars_none hV
  clear hA0 hval0
  simp only [List.append_nil] at hW'
  obtain ⟨q0, cap0, o0, rfl, hS0⟩ := batch_of_trod (hval 0 28 v0 rfl rfl) h0
  have hlt0 : ∀ x ∈ p0, x.block < W.heap.size := fun x hx => by simpa using hW'.lt x (by simpa using (by simp [hx]))
  obtain ⟨q1, cap1, o1, rfl, hS1⟩ := batch_of_trod (hval 1 28 v1 rfl rfl) h1
  have hlt1 : ∀ x ∈ p1, x.block < W.heap.size := fun x hx => by simpa using hW'.lt x (by simpa using (by simp [hx]))
  obtain ⟨a2, rfl, rfl, rfl, w2⟩ := open_int Try.underlying3 (hval 2 3 v2 rfl rfl) h2
  refine (cut_walk q0 q1 cap0 cap1 o0 o1 a2 W hS0 hS1).mono fun e W' ⟨he, hb⟩ => ?_
  subst he
  have hT : DataW.TrodAll enc Try.prog W' 0 (fun b => decide (b < W.heap.size)) true _ _ _ _ := (trodAll_cons_mk (Below.trod laidOut (by kernel_rfl) (of_decide_eq_true (by kernel_rfl)) h0 hb hlt0) (trodAll_cons_mk (Below.trod laidOut (by kernel_rfl) (of_decide_eq_true (by kernel_rfl)) h1 hb hlt1) (trodAll_cons_mk (shut_int Try.underlying3 w2) trodAll_mk0)))
  simp only [List.append_nil] at hT
  exact ⟨_, rfl, _, _, _, [], p0 ++ (p1), [], hW', trodAll_mk1 (shut_bool Try.underlying4 _), hT, rfl, hb.frame _, fun h => by cases h⟩

theorem batchCut_holds : Rows.BatchCutSaid :=
  OpenClaim.holds_of_wide 9 Try.f9 rfl rfl rfl rfl rfl rfl rfl ⟨rfl, rfl, rfl, rfl, rfl⟩ rfl rfl rfl rfl rfl (by kernel_rfl) Try.func9 (by kernel_rfl)
    (of_decide_eq_true (by kernel_rfl)) (by unfold Func.isWrapper; first | (rw [if_pos (by decide +kernel)]; kernel_rfl) | (rw [if_neg (by decide +kernel)]; exact ⟨rfl, rfl⟩))
    (fun os started H enc _ => batchCut_lifted os started H enc)
#print axioms batchCut_holds


end Go.Proofs.Ytieoihmndpkdoaa
