/- PacketAlone: the law returns true for any bytes and any frames: what opens is what would be written, a frame without its last byte is too short, and frames one behind the other open one by one. It has no conditions. -/
import Derived.Test.YtfdeeanoohopfaaArgs
import Derived.Deep.DeepCutAuto
namespace Go.Proofs.Ytfdeeanoohopfaa
open Go.ChangeShapes Go.WideShapes Go.ChangeAt Go.RowKit

/-- Frames' bytes, one behind the other. -/
def framesL (fs : List Fr) : List Nat := (fs.map fun f => frameL f.k f.l).flatten

theorem framesL_drop {fs : List Fr} {k : Nat} (h : k < fs.length) : framesL (fs.drop k) = frameL fs[k].k fs[k].l ++ framesL (fs.drop (k + 1)) := by
  unfold framesL
  rw [List.drop_eq_getElem_cons h, List.map_cons, List.flatten_cons]

theorem framesL_bytes {fs : List Fr} (h : ∀ f ∈ fs, f.k < 256 ∧ Bytes f.l) : Bytes (framesL fs) := by
  intro b hb
  obtain ⟨x, hx, hb⟩ := List.mem_flatten.1 hb
  obtain ⟨f, hf, rfl⟩ := List.mem_map.1 hx
  exact frameL_bytes (h f hf).1 (h f hf).2 b hb

theorem frameL_short {k : Nat} {l : List Nat} (h : l.length ≤ 300) : (frameL k l).length ≤ 320 := by
  have := numL_ten (show l.length < 18446744073709551616 by omega)
  rw [frameL_len]
  omega

theorem open_cut (k : Nat) (a : Option Addr) (c : Nat) (l : List Nat) (w : World) (h : BytesP w a c ((frameL k l).take ((frameL k l).length - 1))) (hl : l.length ≤ 300) :
    Calls Try.prog 10 #[.slice a ((frameL k l).take ((frameL k l).length - 1)).length c] w (fun e w' => ∃ a' c', e = .returned (.tuple #[.agg #[.int .u8 0, .slice a' 0 c'], .int .i64 0, .int .i64 61]) ∧ Below w.heap.size w w') := by
  have hs := frameL_short (k := k) hl
  have C := open_any a c _ w h (by rw [List.length_take]; omega)
  rw [open_short k l (by omega)] at C
  exact C.mono fun _ _ ⟨a', c', he, _, hb⟩ => ⟨a', c', he, hb⟩

theorem open_written (k : Nat) (a : Option Addr) (cap : Nat) (l r : List Nat) (w : World) (h : BytesP w a cap (frameL k l ++ r)) (hl : l.length ≤ 300) (hr : r.length ≤ 100000) :
    Calls Try.prog 10 #[.slice a (frameL k l ++ r).length cap] w (fun e w' => ∃ a' c', e = .returned (.tuple #[.agg #[.int .u8 (k : Int), .slice a' l.length c'], .int .i64 ((frameL k l).length : Int), .int .i64 0]) ∧ BytesP w' a' c' l ∧ Below w.heap.size w w') := by
  have hs := frameL_short (k := k) hl
  have C := open_any a cap _ w h (by rw [List.length_append]; omega)
  rw [open_frame k l r (by omega)] at C
  exact C

set_option maxRecDepth 100000 in
set_option maxHeartbeats 16000000 in
theorem alone_walk (a a1 : Option Addr) (cap cap1 : Nat) (l : List Nat) (fs : List Fr) (w : World) (h : BytesP w a cap l) (h1 : FrsP w a1 cap1 fs) :
    Calls Try.prog 7 #[.slice a l.length cap, .slice a1 fs.length cap1] w (TrueB w) := by
  have H := Lib.hid h
  have H1 := Lib.hid h1
  have hlm := h.len
  clear h h1
  cases t1 : decide (2000 < (l.length : Int)) with
  | true =>
    go_enter Try.func7, Try.ntmps7
    go_wp2_with fail
    refine (alive_any _).mono ?_
    rintro e w1 ⟨rfl, b1⟩
    go_wp2_with fail
    go_ret
    exact ⟨rfl, b1⟩
  | false =>
  cases t2 : decide (8 < (fs.length : Int)) with
  | true =>
    go_enter Try.func7, Try.ntmps7
    go_wp2_with fail
    refine (alive_any _).mono ?_
    rintro e w1 ⟨rfl, b1⟩
    go_wp2_with fail
    go_ret
    exact ⟨rfl, b1⟩
  | false =>
    have n1 : l.length ≤ 2000 := by simp at t1; omega
    have n2 : fs.length ≤ 8 := by simp at t2; omega
    go_enter Try.func7, Try.ntmps7
    go_wp2_with fail
    refine (alive_any _).mono ?_
    rintro e w1 ⟨rfl, b1⟩
    have C1 := Lib.hid (open_any a cap l w1 (H.out.below b1) (by omega))
    have HA := Lib.hid (fun k n body (h : openL l = (k, body, n, 0)) => open_alone H.out.byte h)
    have HNo := Lib.hid (fun (h : (openL l).2.2.2 ≠ 0) => open_none h)
    generalize openL l = r at *
    obtain ⟨k, body, n, e0⟩ := r
    go_wp2_with fail
    refine C1.out.mono ?_
    rintro e w2 ⟨a2, c2, rfl, hB2, b2⟩
    simp only at hB2
    have HB2 := Lib.hid hB2
    have B2 := Lib.hid (b1.trans (b2.mono b1.size))
    clear b1 b2 hB2 C1
    have bx := (Below.refl w2.heap.size w2).alloc (Nat.le_refl _) (.cells #[.int .u8 (k : Int), .slice a2 body.length c2] 27)
    have BX := Lib.hid (B2.out.trans (bx.mono B2.out.size))
    have HBX := Lib.hid (HB2.out.below bx)
    clear bx
    go_upto_if 40 with fail
    go_cut [4] (fun s4 wx => s4 = .bool false ∧ Hid (Below w.heap.size w wx))
    case first =>
      by_cases he : e0 = 0
      · subst he
        obtain ⟨hf, hbl, hnl, hk⟩ := HA.out k n body rfl
        have CF := Lib.hid (frame_any k a2 c2 body _ HBX.out hk hbl)
        obtain ⟨a3, c3, s3, k3⟩ := slice_to (a := a) H.out.cap n (n : Int) rfl hnl
        have HFB := Lib.hid (frameL_bytes hk HB2.out.byte)
        rw [hf] at CF HFB
        have K3 := Lib.hid (k3 w H.out)
        have hcap := H.out.cap
        clear hf k3 HA HNo
        generalize l.take n = ln at *
        go_wp2_with fail
        refine CF.out.mono ?_
        rintro e w4 ⟨v4, rfl, o4, b4⟩
        obtain ⟨a4, c4, e4, hB4⟩ := o4.bytes HFB.out
        subst e4
        have B4 := Lib.hid (BX.out.trans (b4.mono BX.out.size))
        have tx := fun q => run_text (hB4.below (drewN_below w4 q))
        have ty := fun q => run_text ((K3.out.below B4.out).below (drewN_below w4 q))
        clear o4 hB4 b4
        go_wp2_with fail
        go_quiet (fail)
        go_wp2_with fail
        go_meet
        exact ⟨rfl, Lib.hid (below_drewN B4.out _)⟩
      · obtain ⟨hk0, hb0, hn0⟩ := HNo.out he
        have hb0 : body = [] := hb0
        have hn0 : n = 0 := hn0
        subst hb0 hn0
        have he' : ((e0 : Int) == 0) = false := by simp; omega
        clear HA HNo he hk0
        go_wp2_with fail
        go_meet
        exact ⟨rfl, BX⟩
    case rest =>
      obtain ⟨rfl, BC⟩ := hcut
      clear HA HNo HB2 B2 BX HBX
      have HBF := Lib.hid (show ∀ f ∈ fs, f.k < 256 ∧ Bytes f.l from fun f hf => ⟨(H1.out.each f hf).1, (H1.out.each f hf).2.byte⟩)
      have HFB := Lib.hid (framesL_bytes HBF.out)
      have OE := Lib.hid (own_fresh wc w.heap.size BC.out.size)
      have be := BC.out.alloc BC.out.size (.cells #[] 5)
      clear BC
      go_wp2_with fail
      go_loopw [10, 68] (fun s i wr => ∃ (j : Nat) (acc : List Nat), j ≤ fs.length ∧ i = .int .i64 j ∧ Hid (OwnB wr w.heap.size s acc) ∧ Hid (acc ++ framesL (fs.drop j) = framesL fs) ∧ acc.length ≤ 320 * j ∧ Hid (∀ x ∈ fs.take j, x.l.length ≤ 300) ∧ Below w.heap.size w wr) (fun _ i _ => fs.length - (intOf i).toNat)
      case atStart => exact ⟨0, [], Nat.zero_le _, rfl, OE, Lib.hid rfl, by simp, Lib.hid (by simp), be⟩
      case round =>
        clear OE be
        obtain ⟨j, acc, hj, rfl, HO, HS, hac, HZ, hbw⟩ := hrel
        by_cases hlt : j < fs.length
        · obtain ⟨b1, o1, rfl, q1, r1⟩ := (H1.out.below hbw).cell (by intro e; subst e; simp at hlt)
          obtain ⟨y1, y2⟩ := r1 j _ (List.getElem?_eq_getElem hlt)
          have p1 := H1.out.cap
          obtain ⟨hk, hB⟩ := H1.out.each _ (List.getElem_mem hlt)
          have HD := Lib.hid (framesL_drop hlt)
          have HT := Lib.hid (List.take_succ_eq_append_getElem hlt)
          generalize fs[j] = x at *
          obtain ⟨xk, xa, xc, xl⟩ := x
          simp only at y1 y2 hk hB
          have HXB := Lib.hid hB
          have hxl := hB.len
          have bx := hbw.alloc hbw.size (.cells #[.int .u8 (xk : Int), .slice xa xl.length xc] 27)
          have BX := Lib.hid bx
          clear r1 hB bx
          cases t4 : decide (300 < (xl.length : Int)) with
          | true =>
            go_wp2_with fail
            go_ret
            exact ⟨rfl, BX.out⟩
          | false =>
            have hx3 : xl.length ≤ 300 := by simp at t4; omega
            have CF := Lib.hid (frame_any xk xa xc xl _ (HXB.out.below BX.out) hk (by omega))
            have CO := Lib.hid (fun W a6 c6 h => open_cut xk a6 c6 xl W h hx3)
            have hFs := frameL_short (k := xk) hx3
            have hFl := frameL_len xk xl
            have hF1 : 1 ≤ (frameL xk xl).length := by omega
            have HF8 := Lib.hid (frameL_bytes hk HXB.out.byte)
            have HN := Lib.hid (show (acc ++ frameL xk xl) ++ framesL (fs.drop (j + 1)) = framesL fs by rw [← HS.out, HD.out, List.append_assoc])
            have HL := Lib.hid (show (acc ++ frameL xk xl).length ≤ 320 * (j + 1) by rw [List.length_append]; omega)
            have HZ2 := Lib.hid (show ∀ y ∈ fs.take (j + 1), y.l.length ≤ 300 by
              intro y hy
              rw [HT.out, List.mem_append, List.mem_singleton] at hy
              rcases hy with hy | rfl
              · exact HZ.out y hy
              · exact hx3)
            clear HD HT hFl
            generalize frameL xk xl = F at *
            have hlen1 : decide ((F.length : Int) < 1) = false := by simp; omega
            go_wp2_with fail
            refine CF.out.mono ?_
            rintro e w3 ⟨v3, rfl, o3, b3⟩
            obtain ⟨a3, c3, e3, hB3⟩ := o3.bytes HF8.out
            subst e3
            obtain ⟨a4, c4, s4, k4⟩ := slice_to (a := a3) hB3.cap (F.length - 1) ((F.length : Int) - 1) (by omega) (by omega)
            have C4 := Lib.hid (CO.out w3 a4 c4 (k4 w3 hB3))
            have O3 := Lib.hid ((HO.out.below ((Below.refl wr.heap.size wr).alloc (Nat.le_refl _) (.cells #[.int .u8 (xk : Int), .slice xa xl.length xc] 27))).below b3)
            have HB3 := Lib.hid hB3
            have B3 := Lib.hid (BX.out.trans (b3.mono BX.out.size))
            have hcap3 := hB3.cap
            clear o3 hB3 b3 k4 CF CO
            generalize F.take (F.length - 1) = Ft at *
            go_wp2_with fail
            refine C4.out.mono ?_
            rintro e w5 ⟨a5, c5, rfl, b5⟩
            have by5 := (Below.refl w5.heap.size w5).alloc (Nat.le_refl _) (.cells #[.int .u8 0, .slice a5 0 c5] 27)
            have b6 := b5.trans (by5.mono b5.size)
            have O6 := Lib.hid (O3.out.below b6)
            have HB6 := Lib.hid (HB3.out.below b6)
            have B6 := Lib.hid (B3.out.trans (b6.mono B3.out.size))
            have hb6 := B6.out.size
            clear b5 by5 b6 O3 HB3 s4 C4
            go_wp2_with (at_builtin; go_must (refine wpList_append_bytes rfl _ _ rfl w.heap.size _ acc F rfl O6.out a3 c3 rfl HB6.out (by omega) hb6 ?_))
            rintro v7 w7 o7 g7
            have bw7 := B6.out.grown g7 B6.out.size O6.out.row
            have O7 := Lib.hid o7
            clear o7 g7
            go_wp2_with fail
            go_roundw
            case rel => exact ⟨j + 1, _, by omega, by go_num, O7, HN, HL.out, HZ2, bw7⟩
            case measure => simp [intOf]; omega
        · have HE := Lib.hid (show acc = framesL fs by rw [← HS.out, List.drop_eq_nil_of_le (by omega)]; exact (List.append_nil _).symm)
          rw [List.take_of_length_le (by omega)] at HZ
          rw [HE.out] at HO hac
          have hac2 : (framesL fs).length ≤ 3000 := by omega
          obtain ⟨a9, c9, e9, hB9⟩ := HO.out.bytes HFB.out
          subst e9
          have HB9 := Lib.hid hB9
          clear HE HS hac hB9 HO
          go_wp2_with fail
          generalize wr = wo at *
          go_loopw [10, 102] (fun s i wr => ∃ (j : Nat) (ar : Option Addr) (cr : Nat) (rst : List Nat), j ≤ fs.length ∧ i = .int .i64 j ∧ s = .slice ar rst.length cr ∧ rst.length ≤ 3000 ∧ Hid (BytesP wr ar cr rst) ∧ Hid (rst = framesL (fs.drop j)) ∧ Below w.heap.size w wr) (fun _ i _ => fs.length - (intOf i).toNat)
          case atStart => exact ⟨0, a9, c9, _, Nat.zero_le _, rfl, rfl, hac2, HB9, Lib.hid rfl, hbw⟩
          case round =>
            clear HB9 hbw
            obtain ⟨j, ar, cr, rst, hj, rfl, rfl, hrl, HR, HS, hbw⟩ := hrel
            by_cases hlt2 : j < fs.length
            · obtain ⟨b1, o1, rfl, q1, r1⟩ := (H1.out.below hbw).cell (by intro e; subst e; simp at hlt2)
              obtain ⟨y1, y2⟩ := r1 j _ (List.getElem?_eq_getElem hlt2)
              have p1 := H1.out.cap
              obtain ⟨hk, hB⟩ := H1.out.each _ (List.getElem_mem hlt2)
              have hx3 := HZ.out _ (List.getElem_mem hlt2)
              have HD := Lib.hid (HS.out.trans (framesL_drop hlt2))
              generalize fs[j] = x at *
              obtain ⟨xk, xa, xc, xl⟩ := x
              simp only at y1 y2 hk hB hx3
              have HXB := Lib.hid hB
              have bx := (Below.refl wr.heap.size wr).alloc (Nat.le_refl _) (.cells #[.int .u8 (xk : Int), .slice xa xl.length xc] 27)
              have BX := Lib.hid (hbw.trans (bx.mono hbw.size))
              have HRX := Lib.hid (HR.out.below bx)
              have hcr := HR.out.cap
              rw [HD.out] at HRX hrl hcr
              have hFr : (frameL xk xl).length ≤ (frameL xk xl ++ framesL (fs.drop (j + 1))).length := by rw [List.length_append]; omega
              have CO := Lib.hid (open_written xk ar cr xl (framesL (fs.drop (j + 1))) _ HRX.out hx3 (by rw [List.length_append] at hrl; omega))
              obtain ⟨a5, c5, s5, k5⟩ := slice_from (a := ar) hcr (frameL xk xl).length ((frameL xk xl).length : Int) rfl hFr
              rw [List.drop_left] at s5 k5
              have hrl2 : (framesL (fs.drop (j + 1))).length ≤ 3000 := by rw [List.length_append] at hrl; omega
              have hFs := frameL_short (k := xk) hx3
              have hrw : rst = frameL xk xl ++ framesL (fs.drop (j + 1)) := HD.out
              subst hrw
              clear r1 hB HR HS HD
              have K5 := Lib.hid k5
              clear k5
              generalize hF : frameL xk xl = F at *
              generalize hFR : framesL (fs.drop (j + 1)) = Fr2 at *
              have HFR := Lib.hid hFR
              clear hF hFR
              have hgt : ¬ (F ++ Fr2).length < F.length := by omega
              generalize F ++ Fr2 = FF at *
              have X0 := Lib.hid (show (wr.alloc (.cells #[.int .u8 (xk : Int), .slice xa xl.length xc] 27)).heap[wr.heap.size]? = some (.cells #[.int .u8 (xk : Int), .slice xa xl.length xc] 27 (0, 0)) from heap_alloc_new wr _)
              go_wp2_with fail
              refine CO.out.mono ?_
              rintro e w5 ⟨a6, c6, rfl, hB6, b6⟩
              have X5 := row_keep X0.out b6
              have by6 := (Below.refl w5.heap.size w5).alloc (Nat.le_refl _) (.cells #[.int .u8 (xk : Int), .slice a6 xl.length c6] 27)
              obtain ⟨z1, z2, _, _⟩ := row_cell (row_keep X5 by6)
              have B6 := Lib.hid (BX.out.trans (b6.mono BX.out.size))
              have B7 := Lib.hid (B6.out.trans (by6.mono B6.out.size))
              have t6 := run_text (hB6.below by6)
              have t7 := run_text (HXB.out.below B7.out)
              have HR7 := Lib.hid (K5.out _ ((HRX.out.below b6).below by6))
              clear hB6 b6 by6 X5 X0 CO HRX BX
              go_wp2_with fail
              go_roundw
              case rel => exact ⟨j + 1, a5, c5, Fr2, by omega, by go_num, rfl, hrl2, HR7, Lib.hid HFR.out.symm, B7.out⟩
              case measure => simp [intOf]; omega
            · have HE := Lib.hid (show rst = [] by rw [HS.out, List.drop_eq_nil_of_le (by omega)]; rfl)
              have hr0 : rst = [] := HE.out
              subst hr0
              go_wp2_with fail
              go_ret
              exact ⟨rfl, hbw⟩



set_option maxRecDepth 100000 in
theorem packetAlone_lifted (os : Os) (started : os.Started) (H : Type) (enc : TypeId × Value → H) :
    ReturnsInHanded {} Try.checked os 7 .any (Rows.packetAloneSpec.pre6 enc Try.prog Try.f7 Rows.packetAloneRow.domain false) (Rows.packetAloneSpec.post enc Try.prog Try.f7 false true false false) := by
  refine returnsInHanded_of_change (C := Try.checked) own started (by kernel_rfl) Try.func7
    (ChangeSpec.witness6 (enc := enc) (C := Try.checked) false ⟨#[], #[.slice none 0 0, .slice none 0 0], []⟩ 8 (by kernel_rfl) (by kernel_rfl) (by kernel_rfl) (by kernel_rfl)) ?_
  intro W base args ds gs before hval0 hW _ _
  have hval : ∀ (j : Nat) t v, Try.f7.params[j]? = some t → args[j]? = some v → Value.okWide Try.prog W .any base t v := hval0
  have hW' := hW
  obtain ⟨p, q, hA0, hV, rfl, _, _⟩ := hW
  have hA : DataW.TrodAll enc Try.prog W 0 (fun _ => true) true Try.f7.params.toList args.toList ds p := hA0
  rw [Try.params7] at hA hval
  obtain ⟨v0, vs0, d0, ds0, p0, q_0, hargs, rfl, rfl, h0, r0⟩ := trodAll_cons hA
  obtain ⟨v1, vs1, d1, ds1, p1, q_1, rfl, rfl, rfl, h1, r1⟩ := trodAll_cons r0
  obtain ⟨rfl, rfl, rfl⟩ := trodAll_nil r1
  obtain rfl : args = #[v0, v1] := by cases args; simp_all
  obtain ⟨rfl, rfl⟩ := trodVars_none hV
  clear hA0 hval0
  simp only [List.append_nil] at hW'
  obtain ⟨q0, cap0, l0, rfl, hS0, hm0⟩ := bytes_of_trod (hval 0 22 v0 rfl rfl) h0
  have hlt0 : ∀ x ∈ p0, x.block < W.heap.size := fun x hx => by simpa using hW'.lt x (by simpa using (by simp [hx]))
  obtain ⟨q1, cap1, l1, rfl, hS1, hm1⟩ := frames_of_trod (hval 1 52 v1 rfl rfl) h1
  have hlt1 : ∀ x ∈ p1, x.block < W.heap.size := fun x hx => by simpa using hW'.lt x (by simpa using (by simp [hx]))
  refine (alone_walk q0 q1 cap0 cap1 l0 l1 W hS0 hS1).mono fun e W' ⟨he, hb⟩ => ?_
  subst he
  have hT : DataW.TrodAll enc Try.prog W' 0 (fun b => decide (b < W.heap.size)) true _ _ _ _ := (trodAll_cons_mk (Below.trod laidOut (by kernel_rfl) (of_decide_eq_true (by kernel_rfl)) h0 hb hlt0) (trodAll_cons_mk (Below.trod laidOut (by kernel_rfl) (of_decide_eq_true (by kernel_rfl)) h1 hb hlt1) trodAll_mk0))
  simp only [List.append_nil] at hT
  exact ⟨_, rfl, _, _, _, [], p0 ++ (p1), [], hW', trodAll_mk1 (shut_bool Try.underlying4 _), hT, rfl, hb.frame _, fun h => by cases h⟩

theorem packetAlone_holds : Rows.PacketAloneSaid :=
  OpenClaim.holds_of_wide 7 Try.f7 rfl rfl rfl rfl rfl rfl rfl ⟨rfl, rfl, rfl, rfl, rfl⟩ rfl rfl rfl rfl rfl (by kernel_rfl) Try.func7 (by kernel_rfl)
    (of_decide_eq_true (by kernel_rfl)) (by unfold Func.isWrapper; first | (rw [if_pos (by decide +kernel)]; kernel_rfl) | (rw [if_neg (by decide +kernel)]; exact ⟨rfl, rfl⟩))
    (fun os started H enc _ => packetAlone_lifted os started H enc)
#print axioms packetAlone_holds


end Go.Proofs.Ytfdeeanoohopfaa
