/- PacketFrames: the law returns true for any frame and any bytes behind it: Frame writes it as the document does, and Open gives it back. It has no conditions. -/
import Derived.Test.YtfdeeanoohopfaaArgs
import Derived.Test.YtfdeeanoohopfaaRefFrame
namespace Go.Proofs.Ytfdeeanoohopfaa
open Go.ChangeShapes Go.WideShapes Go.ChangeAt Go.RowKit

theorem open_written (k : Nat) (a : Option Addr) (cap : Nat) (l r : List Nat) (w : World) (h : BytesP w a cap (frameL k l ++ r)) (hl : l.length ≤ 65536) (hr : r.length ≤ 100000) :
    Calls Try.prog 10 #[.slice a (frameL k l ++ r).length cap] w (fun e w' => ∃ a' c', e = .returned (.tuple #[.agg #[.int .u8 (k : Int), .slice a' l.length c'], .int .i64 ((frameL k l).length : Int), .int .i64 0]) ∧ BytesP w' a' c' l ∧ Below w.heap.size w w') := by
  have hten := numL_ten (show l.length < 18446744073709551616 by omega)
  have C := open_any a cap _ w h (by rw [List.length_append, frameL_len]; omega)
  rw [open_frame k l r hl] at C
  exact C

set_option maxRecDepth 100000 in
set_option maxHeartbeats 8000000 in
theorem frames_walk (k : Nat) (a a1 : Option Addr) (cap cap1 : Nat) (l m : List Nat) (w : World) (hk : k < 256) (h : BytesP w a cap l) (h1 : BytesP w a1 cap1 m) :
    Calls Try.prog 5 #[.agg #[.int .u8 (k : Int), .slice a l.length cap], .slice a1 m.length cap1] w (TrueB w) := by
  have b0 := (Below.refl w.heap.size w).alloc (Nat.le_refl _) (.cells #[.int .u8 (k : Int), .slice a l.length cap] 27)
  have X0 := Lib.hid (show Boxed w.heap.size k a l.length cap (w.alloc (.cells #[.int .u8 (k : Int), .slice a l.length cap] 27)) from heap_alloc_new w _)
  have H := Lib.hid h
  have H1 := Lib.hid h1
  have hlm := h.len
  have hmm := h1.len
  clear h h1
  cases t1 : decide (3000 < (l.length : Int)) with
  | true =>
    go_enter Try.func5, Try.ntmps5
    go_wp2_with fail
    refine (alive_any _).mono ?_
    rintro e w1 ⟨rfl, b1⟩
    obtain ⟨y0, y1⟩ := boxed_cells (X0.out.below b1)
    have B1 := b0.trans (b1.mono b0.size)
    go_wp2_with fail
    go_ret
    exact ⟨rfl, B1⟩
  | false =>
  cases t2 : decide (100 < (m.length : Int)) with
  | true =>
    go_enter Try.func5, Try.ntmps5
    go_wp2_with fail
    refine (alive_any _).mono ?_
    rintro e w1 ⟨rfl, b1⟩
    obtain ⟨y0, y1⟩ := boxed_cells (X0.out.below b1)
    have B1 := b0.trans (b1.mono b0.size)
    go_wp2_with fail
    go_ret
    exact ⟨rfl, B1⟩
  | false =>
    have n1 : l.length ≤ 3000 := by simp at t1; omega
    have n2 : m.length ≤ 100 := by simp at t2; omega
    have hten := numL_ten (show l.length < 18446744073709551616 by omega)
    have CF := Lib.hid (fun W (h : BytesP W a cap l) => frame_any k a cap l W h hk (by omega))
    have CR := Lib.hid (fun W (h : BytesP W a cap l) => refFrame_any k a cap l W h hk (by omega))
    have CO := Lib.hid (fun W a6 c6 (h : BytesP W a6 c6 (frameL k l ++ m)) => open_written k a6 c6 l m W h (by omega) (by omega))
    have HFB := Lib.hid (frameL_bytes (body := l) hk H.out.byte)
    have hFL := frameL_len k l
    have hfl : (frameL k l).length ≤ 3100 := by omega
    clear hFL
    generalize frameL k l = F at *
    have HFM := Lib.hid (show Bytes (F ++ m) from bytes_app HFB.out H1.out.byte)
    go_enter Try.func5, Try.ntmps5
    go_wp2_with fail
    refine (alive_any _).mono ?_
    rintro e w1 ⟨rfl, b1⟩
    have X1 := Lib.hid (X0.out.below b1)
    have B1 := Lib.hid (b0.trans (b1.mono b0.size))
    obtain ⟨y0, y1⟩ := boxed_cells X1.out
    clear b1 b0 X0
    go_wp2_with fail
    refine (CF.out _ (H.out.below B1.out)).mono ?_
    rintro e w3 ⟨v3, rfl, o3, b3⟩
    obtain ⟨a3, c3, e3, hB3⟩ := o3.bytes HFB.out
    subst e3
    have X3 := Lib.hid (X1.out.below b3)
    have HB3 := Lib.hid hB3
    have B3 := Lib.hid (B1.out.trans (b3.mono B1.out.size))
    clear y0 y1 X1 o3 hB3 b3
    obtain ⟨y0, y1⟩ := boxed_cells X3.out
    go_wp2_with fail
    refine (CR.out _ (H.out.below B3.out)).mono ?_
    rintro e w4 ⟨v4, rfl, o4, b4⟩
    obtain ⟨a4, c4, e4, hB4⟩ := o4.bytes HFB.out
    subst e4
    have X4 := Lib.hid (X3.out.below b4)
    have HB34 := Lib.hid (HB3.out.below b4)
    have B4 := Lib.hid (B3.out.trans (b4.mono B3.out.size))
    have tx := run_text HB34.out
    have ty := run_text hB4
    clear y0 y1 X3 o4 hB4 b4 HB3
    have OE := Lib.hid (own_fresh w4 w4.heap.size (Nat.le_refl _))
    have bw := (Below.refl w4.heap.size w4).alloc (Nat.le_refl _) (.cells #[] 5)
    have G1 := Lib.hid (HB34.out.below bw)
    have hb5 := bw.size
    go_wp2_with (at_builtin; go_must (refine wpList_append_bytes rfl _ _ rfl w4.heap.size (.slice (some ⟨w4.heap.size, 0, none⟩) 0 0) [] F rfl OE.out a3 c3 rfl G1.out (by simp; omega) hb5 ?_))
    rintro v6 w6 o6 g6
    have B6 := Lib.hid (bw.grown g6 bw.size OE.out.row)
    have O6 := Lib.hid (show OwnB w6 w4.heap.size v6 F from o6)
    have G2 := Lib.hid ((H1.out.below B4.out).below B6.out)
    have hb6 := B6.out.size
    clear o6 g6 OE bw G1 tx ty HB34 hb5
    go_wp2_with (at_builtin; go_must (refine wpList_append_bytes rfl _ _ rfl w4.heap.size v6 F m rfl O6.out a1 cap1 rfl G2.out (by omega) hb6 ?_))
    rintro v7 w7 o7 g7
    have B7 := Lib.hid (B6.out.grown g7 B6.out.size O6.out.row)
    obtain ⟨a7, c7, e7, hB7⟩ := o7.bytes HFM.out
    subst e7
    have C8 := Lib.hid (CO.out _ a7 c7 hB7)
    clear o7 g7 hB7 O6 G2 hb6 B6
    generalize F ++ m = FM at *
    go_wp2_with fail
    refine C8.out.mono ?_
    rintro e w8 ⟨a8, c8, rfl, hB8, b8⟩
    have B8 := Lib.hid (B7.out.trans (b8.mono B7.out.size))
    have bx := (Below.refl w8.heap.size w8).alloc (Nat.le_refl _) (.cells #[.int .u8 (k : Int), .slice a8 l.length c8] 27)
    have B9 := Lib.hid (B8.out.trans (bx.mono B8.out.size))
    have X9 := X4.out.below B9.out
    obtain ⟨y0, y1⟩ := boxed_cells X9
    have B10 := Lib.hid (B4.out.trans (B9.out.mono B4.out.size))
    have t8 := run_text (hB8.below bx)
    have t9 := run_text (H.out.below B10.out)
    clear hB8 b8 bx X9
    go_wp2_with fail
    go_ret
    exact ⟨rfl, B10.out⟩



set_option maxRecDepth 100000 in
theorem packetFrames_lifted (os : Os) (started : os.Started) (H : Type) (enc : TypeId × Value → H) :
    ReturnsInHanded {} Try.checked os 5 .any (Rows.packetFramesSpec.pre6 enc Try.prog Try.f5 Rows.packetFramesRow.domain false) (Rows.packetFramesSpec.post enc Try.prog Try.f5 false true false false) := by
  refine returnsInHanded_of_change (C := Try.checked) own started (by kernel_rfl) Try.func5
    (ChangeSpec.witness6 (enc := enc) (C := Try.checked) false ⟨#[], #[.agg #[.int .u8 0, .slice none 0 0], .slice none 0 0], []⟩ 8 (by kernel_rfl) (by kernel_rfl) (by kernel_rfl) (by kernel_rfl)) ?_
  intro W base args ds gs before hval0 hW _ _
  have hval : ∀ (j : Nat) t v, Try.f5.params[j]? = some t → args[j]? = some v → Value.okWide Try.prog W .any base t v := hval0
  have hW' := hW
  obtain ⟨p, q, hA0, hV, rfl, _, _⟩ := hW
  have hA : DataW.TrodAll enc Try.prog W 0 (fun _ => true) true Try.f5.params.toList args.toList ds p := hA0
  rw [Try.params5] at hA hval
  obtain ⟨v0, vs0, d0, ds0, p0, q_0, hargs, rfl, rfl, h0, r0⟩ := trodAll_cons hA
  obtain ⟨v1, vs1, d1, ds1, p1, q_1, rfl, rfl, rfl, h1, r1⟩ := trodAll_cons r0
  obtain ⟨rfl, rfl, rfl⟩ := trodAll_nil r1
  obtain rfl : args = #[v0, v1] := by cases args; simp_all
  obtain ⟨rfl, rfl⟩ := trodVars_none hV
  clear hA0 hval0
  simp only [List.append_nil] at hW'
  obtain ⟨y0, rfl, hk0, hS0, hm0⟩ := frame_of_trod (hval 0 27 v0 rfl rfl) h0
  have hlt0 : ∀ x ∈ p0, x.block < W.heap.size := fun x hx => by simpa using hW'.lt x (by simpa using (by simp [hx]))
  obtain ⟨q1, cap1, l1, rfl, hS1, hm1⟩ := bytes_of_trod (hval 1 22 v1 rfl rfl) h1
  have hlt1 : ∀ x ∈ p1, x.block < W.heap.size := fun x hx => by simpa using hW'.lt x (by simpa using (by simp [hx]))
  refine (frames_walk y0.k y0.a q1 y0.cap cap1 y0.l l1 W hk0 hS0 hS1).mono fun e W' ⟨he, hb⟩ => ?_
  subst he
  have hT : DataW.TrodAll enc Try.prog W' 0 (fun b => decide (b < W.heap.size)) true _ _ _ _ := (trodAll_cons_mk (Below.trod laidOut (by kernel_rfl) (of_decide_eq_true (by kernel_rfl)) h0 hb hlt0) (trodAll_cons_mk (Below.trod laidOut (by kernel_rfl) (of_decide_eq_true (by kernel_rfl)) h1 hb hlt1) trodAll_mk0))
  simp only [List.append_nil] at hT
  exact ⟨_, rfl, _, _, _, [], p0 ++ (p1), [], hW', trodAll_mk1 (shut_bool Try.underlying4 _), hT, rfl, hb.frame _, fun h => by cases h⟩

theorem packetFrames_holds : Rows.PacketFramesSaid :=
  OpenClaim.holds_of_wide 5 Try.f5 rfl rfl rfl rfl rfl rfl rfl ⟨rfl, rfl, rfl, rfl, rfl⟩ rfl rfl rfl rfl rfl (by kernel_rfl) Try.func5 (by kernel_rfl)
    (of_decide_eq_true (by kernel_rfl)) (by unfold Func.isWrapper; first | (rw [if_pos (by decide +kernel)]; kernel_rfl) | (rw [if_neg (by decide +kernel)]; exact ⟨rfl, rfl⟩))
    (fun os started H enc _ => packetFrames_lifted os started H enc)
#print axioms packetFrames_holds


end Go.Proofs.Ytfdeeanoohopfaa
