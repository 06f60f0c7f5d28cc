/- BatchBytes: the law returns true for any batch and any bytes: a batch that can be has the document's bytes, and is taken back from them; from any bytes the batch that is taken, or none, is the document's. It has no conditions. -/
import Derived.Test.YtieoihmndpkdoaaBtAlive
import Derived.Test.YtieoihmndpkdoaaBtRight2
import Derived.Test.YtieoihmndpkdoaaBtSame
import Derived.Test.YtieoihmndpkdoaaBtArgs
import Derived.Test.YtieoihmndpkdoaaBtRef
import Derived.Test.YtieoihmndpkdoaaBtRTake
namespace Go.Proofs.Ytieoihmndpkdoaa
open Go.ChangeShapes Go.WideShapes Go.ChangeAt Go.RowKit

set_option maxRecDepth 100000
attribute [local go_sem ↓] ldBt stBt alBt bxBt ldCp bxCp
attribute [local go_sem] al_bt bx_bt bx_cp alloc_setRow

/-- What came in: a batch, in a variable. -/
structure OneI (w : World) (a : Option Addr) (ca : Nat) (x : Bt) (W : World) : Prop where
  one : Vp W w.heap.size a ca x
  low : Below w.heap.size w W
theorem OneI.below {w W W' : World} {a : Option Addr} {ca : Nat} {x : Bt} (h : OneI w a ca x W) (k : Below W.heap.size W W') : OneI w a ca x W' := ⟨h.one.below k, h.low.trans (k.mono h.low.size)⟩
theorem OneI.new {w : World} {a : Option Addr} {ca : Nat} {x : Bt} (h1 : BtP w a ca x) : OneI w a ca x (w.alloc (.cells (btC a ca x) 28)) := ⟨Vp.new h1, (Below.refl _ _).alloc (Nat.le_refl _) _⟩
theorem takeBO_fits {s : Sc} (h : BytesS s) : FitsB (takeBO s) := by
  unfold takeBO takeBV
  split
  · exact takeB_fits h
  · exact fits_no
/-- A batch's bytes are taken as that batch. -/
theorem takeBO_put {b : Bt} (h : rightBt b = true) : takeBO (some (batchL b)) = b ∧ (takeBV (some (batchL b))).isSome = true ∧ (takeB (some (batchL b))).2 = some [] := by
  have e := takeBV_put h []
  have e2 := takeB_put h []
  rw [List.append_nil] at e e2
  unfold takeBO
  rw [e, e2]
  exact ⟨rfl, rfl, rfl⟩
theorem nine_text (y : List Nat) (hy : Bytes y) : (⟨#[9]⟩ : ByteArray) ++ strB y = strB ([9] ++ y) := by
  apply strL_inj
  rw [strL_strB (bytes_app (by intro b hb; simp at hb; omega) hy)]
  unfold strL
  rw [ByteArray.data_append, Array.toList_append, List.map_append]
  congr 1
  exact strL_strB hy

set_option maxHeartbeats 8000000 in
theorem bytes_walk (a q : Option Addr) (ca qc : Nat) (x : Bt) (l : List Nat) (w : World) (h1 : BtP w a ca x) (h2 : BytesP w q qc l) (_hm : l.length ≤ maxLen) : Calls Try.prog 6 #[btV a ca x, .slice q l.length qc] w (Tell true w) := by
  have K0 := Lib.hid (OneI.new h1)
  have HL := Lib.hid h2
  have hll := h2.len
  clear h1 h2
  have ld : ∀ W, OneI w a ca x W → LdX 28 (.pointer (some ⟨w.heap.size, 0, none⟩)) W = .ok (.value (btV a ca x)) W := fun W h => ld_bt h.one.var.row
  have sa : ∀ W : World, Slot (W.alloc (.cells zB 28)) W.heap.size := fun W => Slot.new W
  have st : ∀ (W : World) g a cap x, Slot W g → StX 28 (.pointer (some ⟨g, 0, none⟩)) (btV a cap x) W = .ok .skip (W.setRow g (btC a cap x)) := fun W g a cap x h => h.store a cap x
  go_enter Try.func6, Try.ntmps6
  go_wp2_with fail
  generalize w.alloc (.cells (btC a ca x) 28) = W0 at *
  refine (alive_any _).mono ?_
  rintro e W1 ⟨rfl, b1⟩
  have K1 := Lib.hid (K0.out.below b1)
  clear b1 K0
  cases hn : decide (2000 < (l.length : Int)) with
  | true =>
    go_wp2_with fail
    go_ret
    exact ⟨rfl, K1.out.low⟩
  | false =>
    have hl2 : l.length ≤ 2000 := by simp at hn; omega
    have H1 := Lib.hid (HL.out.below K1.out.low)
    have HB := Lib.hid (show BytesS (some l) from fun b e => by cases e; exact H1.out.byte)
    have F := Lib.hid (takeBO_fits HB.out)
    have CN := Lib.hid (new_any q qc l W1 H1.out (by omega))
    go_wp2_with fail
    refine CN.out.mono ?_
    rintro e w2 ⟨g, rfl, r2, b2, hg2⟩
    have R2 : Hid (RdS w2 g (some l)) := Lib.hid (.inr ⟨l, 0, rfl, r2⟩)
    have B2 := Lib.hid b2
    have CT := Lib.hid (btTake_any w2 g (some l) R2.out)
    unfold TakeBt at CT
    clear CN r2 b2
    go_wp2_with fail
    refine CT.out.mono ?_
    rintro e w3 ⟨a3, c3, rfl, o3, r3, b3⟩
    have B3 := Lib.hid ((B2.out.trans (b3.below hg2 B2.out.size)).alloc (Nat.le_trans B2.out.size b3.size) (.cells (btC a3 c3 (takeBO (some l))) 28))
    have N3 := Lib.hid (Vb.new o3.reads.2)
    have K3 := Lib.hid (K1.out.below B3.out)
    clear CT R2 B2 o3 r3 b3
    obtain ⟨W3, hW3⟩ : ∃ W, w3.alloc (.cells (btC a3 c3 (takeBO (some l))) 28) = W := ⟨_, rfl⟩
    rw [hW3] at N3 K3
    have H3 := Lib.hid (HL.out.below K3.out.low)
    have S4 : Hid (SnS (W3.alloc (.cells #[.slice q l.length qc, .bool true] 56)) W3.heap.size (some l)) := Lib.hid ⟨q, qc, l, true, heap_alloc_new _ _, H3.out.below ((Below.refl _ _).alloc (Nat.le_refl _) _), fun hne b o e => (by obtain ⟨b', o', e', hlt, _⟩ := H3.out.cell hne; rw [e] at e'; injection e' with e'; injection e' with e1 _; omega), rfl⟩
    have CU := Lib.hid (refBtTake_any _ _ (some l) S4.out)
    unfold ScanBt at CU
    clear B3
    go_wp2_with fail
    refine CU.out.mono ?_
    rintro e w5 ⟨a5, c5, rfl, o5, r5, b5⟩
    have B5 := Lib.hid ((((Below.refl W3.heap.size W3).alloc (Nat.le_refl _) (.cells #[.slice q l.length qc, .bool true] 56)).trans (b5.below (Nat.le_refl _) (by simp))).alloc (Nat.le_trans (by simp) b5.size) (.cells (btC a5 c5 (takeBO (some l))) 28))
    have N5 := Lib.hid (Vb.new o5.reads.2)
    have N6 := Lib.hid (N3.out.below B5.out)
    have K6 := Lib.hid (K3.out.below B5.out)
    clear CU S4 H3 o5 r5 b5 B5 N3 K3
    have lda := ld_bt N5.out.row
    have ldb := ld_bt N6.out.row
    have CS := Lib.hid (show Calls Try.prog 20 #[btV a3 c3 (takeBO (some l)), btV a5 c5 (takeBO (some l))] (w5.alloc (.cells (btC a5 c5 (takeBO (some l))) 28)) (Tell true _) by
      have := refBtSame_any a3 a5 c3 c5 _ _ _ (btP_of N6.out.mem F.out) (btP_of N5.out.mem F.out)
      rwa [sameBt_self] at this)
    have hv : ((takeBV (some l)).isSome != (takeBV (some l)).isSome) = false := by simp
    generalize (takeBV (some l)).isSome = v at *
    generalize takeBO (some l) = bo at *
    go_wp2_with fail
    refine CS.out.mono ?_
    rintro e w7 ⟨rfl, b7⟩
    have K7 := Lib.hid (K6.out.below b7)
    clear CS b7 K6 N5 N6 lda ldb F
    have k7 := K7.out
    have CR := Lib.hid (refBtRight_any a ca x w7 K7.out.one.bt)
    go_wp2_with fail
    refine CR.out.mono ?_
    rintro e w8 ⟨rfl, b8⟩
    have K8 := Lib.hid (K7.out.below b8)
    clear CR b8 K7 k7
    cases hr : rightBt x with
    | false =>
      go_wp2_with fail
      go_ret
      exact ⟨rfl, K8.out.low⟩
    | true =>
      have HY := Lib.hid (batchL_bytes x)
      have hyl := Lib.hid (batchL_len hr)
      have HP := Lib.hid (takeBO_put hr)
      have FR := Lib.hid (fits_right hr)
      have HB9 := Lib.hid (bytes_block [9] (by intro b hb; simp at hb; omega) (by simp) w8 5 (0, 0))
      have K9 := Lib.hid (K8.out.below ((Below.refl _ _).alloc (Nat.le_refl _) (.cells #[.int .u8 9] 5)))
      have CP := Lib.hid (show Calls Try.prog 27 #[.slice (some ⟨w8.heap.size, 0, none⟩) 1 1, btV a ca x] (w8.alloc (.cells #[.int .u8 9] 5)) (OwnPost ([9] ++ batchL x) (w8.alloc (.cells #[.int .u8 9] 5))) from btPut_any (some ⟨w8.heap.size, 0, none⟩) a 1 ca [9] x _ HB9.out K9.out.one.bt.mem hr (by simp))
      have CB := Lib.hid (fun W (h : OneI w a ca x W) => refBtBytes_any a ca x W h.one.bt.mem hr)
      have TX := Lib.hid (nine_text (batchL x) HY.out)
      have HZ := Lib.hid (show Bytes ([9] ++ batchL x) from bytes_app (by intro b hb; simp at hb; omega) HY.out)
      have HD := Lib.hid (show ([9] ++ batchL x).drop 1 = batchL x by simp)
      have HZL := Lib.hid (show ([9] ++ batchL x).length = (batchL x).length + 1 by simp)
      generalize hy : batchL x = y at *
      generalize [9] ++ y = z at *
      have k9 := K9.out
      clear hy K8
      go_wp2_with fail
      refine CP.out.mono ?_
      rintro e w9 ⟨v9, rfl, o9, b9⟩
      obtain ⟨a9, c9, e9, h9⟩ := o9.bytes HZ.out
      subst e9
      have K10 := Lib.hid (K9.out.below b9)
      have H10 := Lib.hid h9
      clear CP o9 b9 h9 K9 k9 HB9
      obtain ⟨sz, hsz⟩ : ∃ s, strB z = s := ⟨_, rfl⟩
      obtain ⟨sy, hsy⟩ : ∃ s, strB y = s := ⟨_, rfl⟩
      have tz : ∀ W, BytesP W a9 c9 z → (convert 48 9 (.slice a9 z.length c9)).run Try.prog W = .ok (.string sz) W := fun W h => by rw [← hsz]; exact run_text h
      have ty : ∀ W a c, BytesP W a c y → (convert 48 9 (.slice a y.length c)).run Try.prog W = .ok (.string sy) W := fun W a c h => by rw [← hsy]; exact run_text h
      have hadd : (⟨#[9]⟩ : ByteArray) ++ sy = sz := by rw [← hsy, ← hsz]; exact TX.out
      have hroom : ¬ 9223372036854775807 < 1 + sy.size := by rw [← hsy, strB_size]; have := hyl.out; omega
      clear hsz hsy TX
      have kd := K10.out.below (below_drew w9)
      have hd := H10.out.below (below_drew w9)
      go_wp2_with fail
      go_cut [52] (fun v wx => v = .bool false ∧ Hid (OneI w a ca x wx) ∧ Hid (BytesP wx a9 c9 z))
      case first =>
        go_region_law (first
          | ((try go_simp); go_at_call 28; refine (CB.out _ kd).mono ?_; rintro e w11 ⟨v11, rfl, o11, b11⟩; obtain ⟨a11, c11, e11, h11⟩ := o11.bytes HY.out; subst e11; have k11 := kd.below b11; have h12 := hd.below b11))
        all_goals
          go_wp2_with fail
          go_meet
          exact ⟨by simp, Lib.hid k11, Lib.hid h12⟩
      case rest =>
        obtain ⟨rfl, K11, H11⟩ := hcut
        clear kd hd tz ty hadd hroom K10 H10 CB
        obtain ⟨a12, c12, s12, k12⟩ := slice_from H11.out.cap 1 1 rfl (by rw [HZL.out]; omega)
        have H12 := Lib.hid (k12 wc H11.out)
        rw [HD.out] at s12 H12
        have CN := Lib.hid (new_any a12 c12 y wc H12.out (by have := hyl.out; omega))
        go_wp2_with fail
        refine CN.out.mono ?_
        rintro e w13 ⟨g2, rfl, r13, b13, hg13⟩
        have R13 : Hid (RdS w13 g2 (some y)) := Lib.hid (.inr ⟨y, 0, rfl, r13⟩)
        have B13 := Lib.hid b13
        have CT := Lib.hid (btTake_any w13 g2 (some y) R13.out)
        unfold TakeBt at CT
        rw [HP.out.1, HP.out.2.1, HP.out.2.2] at CT
        clear CN r13 b13 H12 s12 k12 H11
        go_wp2_with fail
        refine CT.out.mono ?_
        rintro e w14 ⟨a14, c14, rfl, o14, r14, b14⟩
        have B14 := Lib.hid ((B13.out.trans (b14.below hg13 B13.out.size)).alloc (Nat.le_trans B13.out.size b14.size) (.cells (btC a14 c14 x) 28))
        have N14 := Lib.hid (Vb.new o14.reads.2)
        have K14 := Lib.hid (K11.out.below B14.out)
        have R14 := Lib.hid (r14.below ((Below.refl _ _).alloc (Nat.le_refl _) (.cells (btC a14 c14 x) 28)))
        clear CT R13 B13 B14 o14 r14 b14 K11
        go_wp2_with fail
        refine (rd_done_any _ g2 (some []) R14.out).mono ?_
        rw [show (some [] == (some [] : Sc)) = true from rfl]
        rintro e w15 ⟨rfl, b15⟩
        have N15 := Lib.hid (N14.out.below b15)
        have K15 := Lib.hid (K14.out.below b15)
        clear b15 N14 K14 R14
        have k15 := K15.out
        have lda := ld_bt N15.out.row
        have CS := Lib.hid (refBtSame_any a14 a c14 ca x x w15 (btP_of N15.out.mem FR.out) K15.out.one.bt)
        rw [sameBt_self] at CS
        go_wp2_with fail
        refine CS.out.mono ?_
        rintro e w16 ⟨rfl, b16⟩
        have L16 := Lib.hid (K15.out.low.trans (b16.mono K15.out.low.size))
        clear b16 CS lda k15
        go_wp2_with fail
        go_ret
        exact ⟨rfl, L16.out⟩


set_option maxRecDepth 100000 in
theorem batchBytes_lifted (os : Os) (started : os.Started) (H : Type) (enc : TypeId × Value → H) :
    ReturnsInHanded {} Try.checked os 6 .any (Rows.batchBytesSpec.pre6 enc Try.prog Try.f6 Rows.batchBytesRow.domain false) (Rows.batchBytesSpec.post enc Try.prog Try.f6 false true false false) := by
  refine returnsInHanded_of_change (C := Try.checked) own started (by kernel_rfl) Try.func6
    (ChangeSpec.witness6 (enc := enc) (C := Try.checked) false ⟨#[], #[.agg #[.int .i64 0, .int .i64 0, .int .i64 0, .int .i64 0, .int .i64 0, .string ⟨#[]⟩, .string ⟨#[]⟩, .string ⟨#[]⟩, .slice none 0 0], .slice none 0 0], []⟩ 8 (by kernel_rfl) (by kernel_rfl) (by kernel_rfl) (by kernel_rfl)) ?_
  intro W base args ds gs before hval0 hW _ _
  have hval : ∀ (j : Nat) t v, Try.f6.params[j]? = some t → args[j]? = some v → Value.okWide Try.prog W .any base t v := hval0
  have hW' := hW
  obtain ⟨p, q, hA0, hV, rfl, _, _⟩ := hW
  have hA : DataW.TrodAll enc Try.prog W 0 (fun _ => true) true Try.f6.params.toList args.toList ds p := hA0
  rw [Try.params6] at hA hval
  obtain ⟨v0, vs0, d0, ds0, p0, q_0, hargs, rfl, rfl, h0, r0⟩ := trodAll_cons hA
  obtain ⟨v1, vs1, d1, ds1, p1, q_1, rfl, rfl, rfl, h1, r1⟩ := trodAll_cons r0
  obtain ⟨rfl, rfl, rfl⟩ := trodAll_nil r1
  obtain rfl : args = #[v0, v1] := by cases args; simp_all
  obtain ⟨rfl, rfl⟩ := trodVars_none hV
  clear hA0 hval0
  simp only [List.append_nil] at hW'
  obtain ⟨q0, cap0, o0, rfl, hS0⟩ := batch_of_trod (hval 0 28 v0 rfl rfl) h0
  have hlt0 : ∀ x ∈ p0, x.block < W.heap.size := fun x hx => by simpa using hW'.lt x (by simpa using (by simp [hx]))
  obtain ⟨q1, cap1, l1, rfl, hS1, hm1⟩ := bytes_of_trod (hval 1 48 v1 rfl rfl) h1
  have hlt1 : ∀ x ∈ p1, x.block < W.heap.size := fun x hx => by simpa using hW'.lt x (by simpa using (by simp [hx]))
  refine (bytes_walk q0 q1 cap0 cap1 o0 l1 W hS0 hS1 hm1).mono fun e W' ⟨he, hb⟩ => ?_
  subst he
  have hT : DataW.TrodAll enc Try.prog W' 0 (fun b => decide (b < W.heap.size)) true _ _ _ _ := (trodAll_cons_mk (Below.trod laidOut (by kernel_rfl) (of_decide_eq_true (by kernel_rfl)) h0 hb hlt0) (trodAll_cons_mk (Below.trod laidOut (by kernel_rfl) (of_decide_eq_true (by kernel_rfl)) h1 hb hlt1) trodAll_mk0))
  simp only [List.append_nil] at hT
  exact ⟨_, rfl, _, _, _, [], p0 ++ (p1), [], hW', trodAll_mk1 (shut_bool Try.underlying4 _), hT, rfl, hb.frame _, fun h => by cases h⟩

theorem batchBytes_holds : Rows.BatchBytesSaid :=
  OpenClaim.holds_of_wide 6 Try.f6 rfl rfl rfl rfl rfl rfl rfl ⟨rfl, rfl, rfl, rfl, rfl⟩ rfl rfl rfl rfl rfl (by kernel_rfl) Try.func6 (by kernel_rfl)
    (of_decide_eq_true (by kernel_rfl)) (by unfold Func.isWrapper; first | (rw [if_pos (by decide +kernel)]; kernel_rfl) | (rw [if_neg (by decide +kernel)]; exact ⟨rfl, rfl⟩))
    (fun os started H enc _ => batchBytes_lifted os started H enc)
#print axioms batchBytes_holds


end Go.Proofs.Ytieoihmndpkdoaa
