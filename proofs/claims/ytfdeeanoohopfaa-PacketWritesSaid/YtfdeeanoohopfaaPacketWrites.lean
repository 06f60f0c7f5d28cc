/- PacketWrites: the law returns true for any bytes, any numbers and any texts: Number and Text lay these behind the bytes as the document does, and leave the bytes that were handed in. It has no conditions. -/
import Derived.Test.YtfdeeanoohopfaaArgs
import Derived.Deep.RegionLaw
namespace Go.Proofs.Ytfdeeanoohopfaa
open Go.ChangeShapes Go.WideShapes Go.ChangeAt Go.RowKit

theorem own_at {w w' : World} {base : Nat} {v : Value} {l : List Nat} (h : OwnB w base v l) (hb : Below w.heap.size w w') : OwnB w' base v l := h.below hb

set_option maxRecDepth 100000 in
set_option maxHeartbeats 8000000 in
theorem writes_walk (a a1 a2 : Option Addr) (cap cap1 cap2 : Nat) (l ns : List Nat) (ss : List ByteArray) (w : World) (h : BytesP w a cap l) (h1 : NumsP w a1 cap1 ns) (h2 : StrsP w a2 cap2 ss) (hsz : ∀ s ∈ ss, s.size ≤ maxLen) :
    Calls Try.prog 4 #[.slice a l.length cap, .slice a1 ns.length cap1, .slice a2 ss.length cap2] w (TrueB w) := by
  have H := Lib.hid h
  have H1 := Lib.hid h1
  have H2 := Lib.hid h2
  have HSZ := Lib.hid hsz
  clear h h1 h2 hsz
  cases t1 : decide (200 < (l.length : Int)) with
  | true =>
    go_enter Try.func4, Try.ntmps4
    go_wp2_with fail
    refine (alive_any _).mono ?_
    rintro e w1 ⟨rfl, b1⟩
    go_wp2_with fail
    go_ret
    exact ⟨rfl, b1⟩
  | false =>
  cases t2 : decide (30 < (ns.length : Int)) with
  | true =>
    go_enter Try.func4, Try.ntmps4
    go_wp2_with fail
    refine (alive_any _).mono ?_
    rintro e w1 ⟨rfl, b1⟩
    go_wp2_with fail
    go_ret
    exact ⟨rfl, b1⟩
  | false =>
  cases t3 : decide (30 < (ss.length : Int)) with
  | true =>
    go_enter Try.func4, Try.ntmps4
    go_wp2_with fail
    refine (alive_any _).mono ?_
    rintro e w1 ⟨rfl, b1⟩
    go_wp2_with fail
    go_ret
    exact ⟨rfl, b1⟩
  | false =>
    have n1 : l.length ≤ 200 := by simp at t1; omega
    have n2 : ns.length ≤ 30 := by simp at t2; omega
    have n3 : ss.length ≤ 30 := by simp at t3; omega
    go_enter Try.func4, Try.ntmps4
    go_wp2_with fail
    refine (alive_any _).mono ?_
    rintro e w1 ⟨rfl, b1⟩
    have OE := Lib.hid (own_fresh w1 w.heap.size b1.size)
    have bw := b1.alloc b1.size (.cells #[] 5)
    have G1 := Lib.hid (H.out.below bw)
    clear b1
    go_wp2_with (at_builtin; go_must (refine wpList_append_bytes rfl _ _ rfl w.heap.size (.slice (some ⟨w1.heap.size, 0, none⟩) 0 0) [] l rfl OE.out a cap rfl G1.out (by simp; omega) bw.size ?_))
    rintro v2 w2 o2 g2
    have bw2 := bw.grown g2 bw.size OE.out.row
    have O2 := Lib.hid (show OwnB w2 w.heap.size v2 l from o2)
    clear o2 g2 OE G1 bw
    go_wp2_with fail
    go_loopw [7, 33] (fun s i wr => ∃ (k : Nat) (acc : List Nat), k ≤ ns.length ∧ i = .int .i64 k ∧ Hid (OwnB wr w.heap.size s acc) ∧ Hid (acc ++ numsL (ns.drop k) = l ++ numsL ns) ∧ acc.length ≤ 200 + 10 * k ∧ Below w.heap.size w wr) (fun _ i _ => ns.length - (intOf i).toNat)
    case atStart => exact ⟨0, l, Nat.zero_le _, rfl, O2, Lib.hid rfl, by omega, bw2⟩
    case round =>
      clear O2 bw2
      obtain ⟨k, acc, hk, rfl, HO, HS, hac, hbw⟩ := hrel
      by_cases hlt : k < ns.length
      · obtain ⟨b, o, rfl, hb, hc⟩ := (H1.out.below hbw).cell (by intro e; subst e; simp at hlt)
        have g1 := hc k _ (List.getElem?_eq_getElem hlt)
        have p1 := H1.out.cap
        have hx := H1.out.num _ (List.getElem_mem hlt)
        have HD := Lib.hid (numsL_drop hlt)
        generalize ns[k] = x at *
        have hten := numL_ten hx
        have HN := Lib.hid (show (acc ++ numL x) ++ numsL (ns.drop (k + 1)) = l ++ numsL ns by rw [← HS.out, HD.out, List.append_assoc])
        have HL := Lib.hid (show (acc ++ numL x).length ≤ 200 + 10 * (k + 1) by rw [List.length_append]; omega)
        have C2 := Lib.hid (refNumber_any x wr hx)
        have hbx := Lib.hid (numL_bytes x)
        clear hc
        go_wp2_with fail
        refine C2.out.mono ?_
        rintro e w3 ⟨v3, rfl, o3, b3⟩
        obtain ⟨a3, c3, rfl, hB3⟩ := o3.bytes hbx.out
        have HB3 := Lib.hid hB3
        have O3 := Lib.hid (HO.out.below b3)
        have bb := hbw.trans (b3.mono hbw.size)
        clear o3 b3 hB3
        go_wp2_with (at_builtin; go_must (refine wpList_append_bytes rfl _ _ rfl w.heap.size _ acc (numL x) rfl O3.out a3 c3 rfl HB3.out (by omega) bb.size ?_))
        rintro v4 w4 o4 g4
        have bw4 := bb.grown g4 bb.size O3.out.row
        have O4 := Lib.hid o4
        clear o4 g4
        go_wp2_with fail
        go_roundw
        case rel => exact ⟨k + 1, _, by omega, by go_num, O4, HN, HL.out, bw4⟩
        case measure => simp [intOf]; omega
      · have HE := Lib.hid (show acc = l ++ numsL ns by rw [← HS.out, List.drop_eq_nil_of_le (by omega)]; exact (List.append_nil _).symm)
        rw [HE.out] at HO hac
        clear HE HS
        have HNB := Lib.hid (show Bytes (l ++ numsL ns) from bytes_app H.out.byte (numsL_bytes _))
        have hl2 : (l ++ numsL ns).length ≤ 500 := by omega
        go_wp2_with fail
        generalize wr = wo at *
        go_loopw [7, 44] (fun s i wr => ∃ (k : Nat) (acc : List Nat), k ≤ ss.length ∧ i = .int .i64 k ∧ Hid (OwnB wr w.heap.size s acc) ∧ Hid (acc ++ textsL (ss.drop k) = (l ++ numsL ns) ++ textsL ss) ∧ acc.length ≤ 500 + 310 * k ∧ Hid (∀ x ∈ ss.take k, x.size ≤ 300) ∧ Below w.heap.size w wr) (fun _ i _ => ss.length - (intOf i).toNat)
        case atStart => exact ⟨0, _, Nat.zero_le _, rfl, HO, Lib.hid rfl, by omega, Lib.hid (by simp), hbw⟩
        case round =>
          clear HO hbw hac
          obtain ⟨j, acc, hj, rfl, HO, HS, hac, HZ, hbw⟩ := hrel
          by_cases hjl : j < ss.length
          · obtain ⟨b, o, rfl, hb, hc⟩ := (H2.out.below hbw).cell (by intro e; subst e; simp at hjl)
            have g1 := hc j _ (List.getElem?_eq_getElem hjl)
            have p1 := H2.out.cap
            have HD := Lib.hid (textsL_drop hjl)
            have HT := Lib.hid (List.take_succ_eq_append_getElem hjl)
            have hxm := HSZ.out _ (List.getElem_mem hjl)
            generalize ss[j] = x at *
            unfold maxLen at hxm
            clear hc
            cases t4 : decide (300 < (x.size : Int)) with
            | true =>
              go_wp2_with fail
              go_ret
              exact ⟨rfl, hbw⟩
            | false =>
              have hx3 : x.size ≤ 300 := by simp at t4; omega
              have hten := numL_ten (show x.size < 18446744073709551616 by omega)
              have HTL := Lib.hid (show (textL x).length ≤ 310 by unfold textL; rw [List.length_append, strL_len]; omega)
              have HN := Lib.hid (show (acc ++ textL x) ++ textsL (ss.drop (j + 1)) = (l ++ numsL ns) ++ textsL ss by rw [← HS.out, HD.out, List.append_assoc])
              have HL := Lib.hid (show (acc ++ textL x).length ≤ 500 + 310 * (j + 1) by rw [List.length_append]; have := HTL.out; omega)
              have HZ2 := Lib.hid (show ∀ y ∈ ss.take (j + 1), y.size ≤ 300 by
                intro y hy
                rw [HT.out, List.mem_append, List.mem_singleton] at hy
                rcases hy with hy | rfl
                · exact HZ.out y hy
                · exact hx3)
              have C2 := Lib.hid (refText_any x wr (by omega))
              have hbx := Lib.hid (textL_bytes x)
              have hal : acc.length + (textL x).length ≤ 10000000 := by have := HTL.out; omega
              generalize textL x = tx at *
              go_wp2_with fail
              refine C2.out.mono ?_
              rintro e w3 ⟨v3, rfl, o3, b3⟩
              obtain ⟨a3, c3, rfl, hB3⟩ := o3.bytes hbx.out
              have HB3 := Lib.hid hB3
              have O3 := Lib.hid (HO.out.below b3)
              have bb := hbw.trans (b3.mono hbw.size)
              clear o3 b3 hB3
              go_wp2_with (at_builtin; go_must (refine wpList_append_bytes rfl _ _ rfl w.heap.size _ acc tx rfl O3.out a3 c3 rfl HB3.out hal bb.size ?_))
              rintro v4 w4 o4 g4
              have bw4 := bb.grown g4 bb.size O3.out.row
              have O4 := Lib.hid o4
              clear o4 g4
              go_wp2_with fail
              go_roundw
              case rel => exact ⟨j + 1, _, by omega, by go_num, O4, HN, HL.out, HZ2, bw4⟩
              case measure => simp [intOf]; omega
          · have HE := Lib.hid (show acc = (l ++ numsL ns) ++ textsL ss by rw [← HS.out, List.drop_eq_nil_of_le (by omega)]; exact (List.append_nil _).symm)
            rw [List.take_of_length_le (by omega)] at HZ
            have HTB := Lib.hid (show Bytes ((l ++ numsL ns) ++ textsL ss) from bytes_app HNB.out (textsL_bytes _))
            rw [HE.out] at HO
            clear HE HS hac
            obtain ⟨a9, c9, e9, hB9⟩ := HO.out.bytes HTB.out
            subst e9
            have HB9 := Lib.hid hB9
            have K0 := Lib.hid (H.out.below hbw)
            have K1 := Lib.hid (H1.out.below hbw)
            have K2 := Lib.hid (H2.out.below hbw)
            have dr := (Below.refl wr.heap.size wr).drew
            have C12 := Lib.hid (number_any a a1 cap cap1 l ns wr.drew (K0.out.below dr) (K1.out.below dr) (by omega) (by omega))
            have C18 := Lib.hid (fun W a4 c4 (b : Below wr.heap.size wr W) (h : BytesP W a4 c4 (l ++ numsL ns)) => text_any a4 a2 c4 cap2 (l ++ numsL ns) ss W h (K2.out.below b) (by omega) (by omega) (fun s hs => by have := HZ.out s hs; omega))
            have tb := run_text K0.out
            have tw := run_text hB9
            have twd : (convert 22 9 (.slice a9 ((l ++ numsL ns) ++ textsL ss).length c9)).run Try.prog wr.drew = .ok (.string (strB ((l ++ numsL ns) ++ textsL ss))) wr.drew := run_text (hB9.below dr)
            have BW := Lib.hid hbw
            clear hB9 dr HO hbw
            generalize hR : (l ++ numsL ns) ++ textsL ss = R at *
            generalize hQ : l ++ numsL ns = Q at *
            clear hR hQ
            go_wp2_with fail
            go_region_law (go_simp; first
              | (go_at_call 12; refine C12.out.mono ?_; rintro e w4 ⟨v4, rfl, o4, b4⟩
                 obtain ⟨a4, c4, rfl, hB4⟩ := o4.bytes HNB.out
                 have b4' : Below wr.heap.size wr w4 := ⟨b4.os, b4.tape, b4.output, b4.size, b4.block⟩
                 have tw4 := run_text (HB9.out.below b4')
                 have HB4 := Lib.hid hB4
                 have B4 := Lib.hid b4'
                 clear o4 b4 b4' hB4)
              | (go_at_call 18; refine (C18.out w4 a4 c4 B4.out HB4.out).mono ?_; rintro e w5 ⟨v5, rfl, o5, b5⟩
                 obtain ⟨a5, c5, rfl, hB5⟩ := o5.bytes HTB.out
                 have b5' := B4.out.trans (b5.mono B4.out.size)
                 have t5 := run_text hB5
                 have tw5 := run_text (HB9.out.below b5')
                 have tb5 := run_text (K0.out.below b5')
                 have B5 := Lib.hid (BW.out.trans (b5'.mono BW.out.size))
                 clear o5 b5 b5' hB5))
            all_goals
              go_wp2_with fail
              go_ret
              exact ⟨rfl, B5.out⟩



set_option maxRecDepth 100000 in
theorem packetWrites_lifted (os : Os) (started : os.Started) (H : Type) (enc : TypeId × Value → H) :
    ReturnsInHanded {} Try.checked os 4 .any (Rows.packetWritesSpec.pre6 enc Try.prog Try.f4 Rows.packetWritesRow.domain false) (Rows.packetWritesSpec.post enc Try.prog Try.f4 false true false false) := by
  refine returnsInHanded_of_change (C := Try.checked) own started (by kernel_rfl) Try.func4
    (ChangeSpec.witness6 (enc := enc) (C := Try.checked) false ⟨#[], #[.slice none 0 0, .slice none 0 0, .slice none 0 0], []⟩ 8 (by kernel_rfl) (by kernel_rfl) (by kernel_rfl) (by kernel_rfl)) ?_
  intro W base args ds gs before hval0 hW _ _
  have hval : ∀ (j : Nat) t v, Try.f4.params[j]? = some t → args[j]? = some v → Value.okWide Try.prog W .any base t v := hval0
  have hW' := hW
  obtain ⟨p, q, hA0, hV, rfl, _, _⟩ := hW
  have hA : DataW.TrodAll enc Try.prog W 0 (fun _ => true) true Try.f4.params.toList args.toList ds p := hA0
  rw [Try.params4] at hA hval
  obtain ⟨v0, vs0, d0, ds0, p0, q_0, hargs, rfl, rfl, h0, r0⟩ := trodAll_cons hA
  obtain ⟨v1, vs1, d1, ds1, p1, q_1, rfl, rfl, rfl, h1, r1⟩ := trodAll_cons r0
  obtain ⟨v2, vs2, d2, ds2, p2, q_2, rfl, rfl, rfl, h2, r2⟩ := trodAll_cons r1
  obtain ⟨rfl, rfl, rfl⟩ := trodAll_nil r2
  obtain rfl : args = #[v0, v1, v2] := by cases args; simp_all
  obtain ⟨rfl, rfl⟩ := trodVars_none hV
  clear hA0 hval0
  simp only [List.append_nil] at hW'
  obtain ⟨q0, cap0, l0, rfl, hS0, hm0⟩ := bytes_of_trod (hval 0 22 v0 rfl rfl) h0
  have hlt0 : ∀ x ∈ p0, x.block < W.heap.size := fun x hx => by simpa using hW'.lt x (by simpa using (by simp [hx]))
  obtain ⟨q1, cap1, l1, rfl, hS1, hm1⟩ := nums_of_trod (hval 1 36 v1 rfl rfl) h1
  have hlt1 : ∀ x ∈ p1, x.block < W.heap.size := fun x hx => by simpa using hW'.lt x (by simpa using (by simp [hx]))
  obtain ⟨q2, cap2, l2, rfl, hS2, hm2⟩ := strs_of_trod (hval 2 37 v2 rfl rfl) h2
  have hlt2 : ∀ x ∈ p2, x.block < W.heap.size := fun x hx => by simpa using hW'.lt x (by simpa using (by simp [hx]))
  refine (writes_walk q0 q1 q2 cap0 cap1 cap2 l0 l1 l2 W hS0 hS1 hS2 hm2.2).mono fun e W' ⟨he, hb⟩ => ?_
  subst he
  have hT : DataW.TrodAll enc Try.prog W' 0 (fun b => decide (b < W.heap.size)) true _ _ _ _ := (trodAll_cons_mk (Below.trod laidOut (by kernel_rfl) (of_decide_eq_true (by kernel_rfl)) h0 hb hlt0) (trodAll_cons_mk (Below.trod laidOut (by kernel_rfl) (of_decide_eq_true (by kernel_rfl)) h1 hb hlt1) (trodAll_cons_mk (Below.trod laidOut (by kernel_rfl) (of_decide_eq_true (by kernel_rfl)) h2 hb hlt2) trodAll_mk0)))
  simp only [List.append_nil] at hT
  exact ⟨_, rfl, _, _, _, [], p0 ++ (p1 ++ (p2)), [], hW', trodAll_mk1 (shut_bool Try.underlying4 _), hT, rfl, hb.frame _, fun h => by cases h⟩

theorem packetWrites_holds : Rows.PacketWritesSaid :=
  OpenClaim.holds_of_wide 4 Try.f4 rfl rfl rfl rfl rfl rfl rfl ⟨rfl, rfl, rfl, rfl, rfl⟩ rfl rfl rfl rfl rfl (by kernel_rfl) Try.func4 (by kernel_rfl)
    (of_decide_eq_true (by kernel_rfl)) (by unfold Func.isWrapper; first | (rw [if_pos (by decide +kernel)]; kernel_rfl) | (rw [if_neg (by decide +kernel)]; exact ⟨rfl, rfl⟩))
    (fun os started H enc _ => packetWrites_lifted os started H enc)
#print axioms packetWrites_holds


end Go.Proofs.Ytfdeeanoohopfaa
