/- What Put of package outbox answers, at every outbox. -/
import Derived.Test.YtciijkognhdddaaObFindC
import Derived.Test.YtciijkognhdddaaScPut
namespace Go.Proofs.Ytciijkognhdddaa
set_option maxRecDepth 100000
open Go.RowKit Go.ChangeShapes Go.WideShapes Go.ChangeAt
attribute [local go_sem ↓] ldEf stEf alEf bxEf eqEf bdEf bsEf
attribute [local go_sem] al_ef bx_ef st_new bd_ef bs_ef bs_ef0

theorem wrap_tick (n : Int) (h0 : 0 ≤ n) (h1 : n ≤ 1099511627776) : ∃ m : Nat, IntKind.u64.wrap n = (m : Int) ∧ n.toNat = m ∧ m < 18446744073709551616 :=
  ⟨n.toNat, by rw [IntKind.wrap_u64]; omega, rfl, by omega⟩
theorem effL_two (e : Ef) (m1 m2 m3 m4 m5 : Nat) (t1 : e.key.toNat = m1) (t2 : e.kind.toNat = m2) (t3 : e.tries.toNat = m3) (t4 : e.due.toNat = m4) (t5 : e.batch.toNat = m5) : effL e = numsL [m1, m2, m3, m4, m5] ++ textsL [e.order] := by
  subst t1 t2 t3 t4 t5
  simp [effL, numsL, textsL]
theorem effL_len {e : Ef} (h : oneB e = true) : (effL e).length ≤ 92 := by
  obtain ⟨r1, r2, r3, r4, r5, r6⟩ := oneB_of h
  have t1 := numL_ten (show e.key.toNat < 18446744073709551616 by omega)
  have t2 := numL_ten (show e.kind.toNat < 18446744073709551616 by omega)
  have t3 := numL_ten (show e.tries.toNat < 18446744073709551616 by omega)
  have t4 := numL_ten (show e.due.toNat < 18446744073709551616 by omega)
  have t5 := numL_ten (show e.batch.toNat < 18446744073709551616 by omega)
  have t6 := textL_32 r6
  unfold effL
  simp only [List.length_append]
  omega
theorem effsL_len : ∀ (l : List Ef) (_ : ∀ e ∈ l, oneB e = true), (effsL l).length ≤ 92 * l.length
  | [], _ => by simp [effsL]
  | e :: r, h => by
    have h1 := effL_len (h e (by simp))
    have h2 := effsL_len r (fun y hy => h y (by simp [hy]))
    rw [effsL_cons, List.length_append, List.length_cons]
    omega
theorem boxL_len {l : List Ef} (h : rightE l = true) (hm : l.length ≤ 100) : (boxL l).length ≤ 10000 := by
  have h1 := effsL_len l ((rightE_iff l).1 h).1
  have h2 := numL_ten (show l.length < 18446744073709551616 by omega)
  unfold boxL
  rw [List.length_append]
  omega

/-- An effect is put: its block, then the bytes so far, in a row of the call's own. -/
structure PutI (w : World) (X : Nat) (e : Ef) (acc : List Nat) (v : Value) (W : World) : Prop where
  own : OwnB W w.heap.size v acc
  row : Row W X 27 (efC e)
  low : Below w.heap.size w W
theorem PutI.below {w W W' : World} {X : Nat} {e : Ef} {acc : List Nat} {v : Value} (h : PutI w X e acc v W) (bl : Below W.heap.size W W') : PutI w X e acc v W' :=
  ⟨h.own.below bl, h.row.below bl, h.low.trans (bl.mono h.low.size)⟩
theorem PutI.put {w W W' : World} {X : Nat} {e : Ef} {acc acc' : List Nat} {v v' : Value} (h : PutI w X e acc v W) (own : OwnB W' w.heap.size v' acc') (g : W.grownBy W' v.ownBlock) : PutI w X e acc' v' W' :=
  ⟨own, h.row.own h.own (by decide) g, h.low.grown g h.low.size h.own.row⟩

set_option maxHeartbeats 8000000 in
theorem obPut_any (a oa : Option Addr) (cap oc : Nat) (l0 : List Nat) (l : List Ef) (w : World) (hB : BytesP w a cap l0) (hO : SlP LE w oa oc l) (hr : rightE l = true) (hl : l0.length ≤ 1000) (hm : l.length ≤ 100) :
    Calls Try.prog 28 #[.slice a l0.length cap, .slice oa l.length oc] w (OwnPost (l0 ++ boxL l) w) := by
  have HB := Lib.hid hB
  have HO := Lib.hid hO
  have hoc := hO.cap
  have HR := Lib.hid (fun e he => ((rightE_iff l).1 hr).1 e he)
  have hn2 : IntKind.u64.wrap (l.length : Int) = (l.length : Int) := by rw [IntKind.wrap_u64]; omega
  obtain ⟨y0, hy0⟩ : ∃ y, numsL [l.length] = y := ⟨_, rfl⟩
  have hy0l : y0.length ≤ 10 := by rw [← hy0]; exact numsL_len [l.length] (by intro n hn; simp at hn; omega)
  have C0 := Lib.hid (fun a2 c2 W h => numN a2 c2 [l.length] W h (by simp) y0 hy0)
  have Y0 := Lib.hid (show Bytes y0 by rw [← hy0]; exact numsL_bytes _)
  have HF := Lib.hid (show l0 ++ boxL l = (l0 ++ y0) ++ effsL l by rw [← hy0]; simp [boxL, numsL])
  have N0 := Lib.hid (fun W => nums_one l.length (by omega) W)
  clear hB hO hr hy0
  generalize l0 ++ boxL l = F at *
  go_enter Try.func28, Try.ntmps28
  go_wp2_with (at_builtin; go_must (refine wpList_append_bytes rfl _ _ rfl w.heap.size (.slice none 0 0) [] l0 rfl (own_nil _ _) a cap rfl HB.out (by simp; omega) (Nat.le_refl _) ?_))
  rintro v1 w1 o1 g1
  have b1 := (Below.refl w.heap.size w).grown g1 (Nat.le_refl _) (own_nil w w.heap.size).row
  have O1 := Lib.hid o1
  have B1 := Lib.hid b1
  have A1 := Lib.hid (b1.alloc b1.size (.cells #[.int .u64 (l.length : Int)] 69))
  have T1 := Lib.hid (N0.out w1)
  have Q1 := Lib.hid (own_alloc O1.out (.cells #[.int .u64 (l.length : Int)] 69))
  clear o1 g1 b1 HB N0
  go_wp2_with fail
  generalize w1.alloc (Obj.cells #[Value.int IntKind.u64 (l.length : Int)] 69) = W1 at *
  refine (C0.out _ _ _ T1.out).mono ?_
  rintro e x2 ⟨u2, rfl, q2, b2⟩
  obtain ⟨a2, p2, e2', h2⟩ := q2.bytes Y0.out
  subst e2'
  have O2 := Lib.hid (Q1.out.below b2)
  have B2 := Lib.hid (A1.out.trans (b2.mono A1.out.size))
  have H2 := Lib.hid h2
  have hb2 := B2.out.size
  have hs1 : l0.length + y0.length ≤ 10000000 := by omega
  clear q2 b2 h2 A1 T1 Q1 O1 B1 C0
  go_wp2_with (at_builtin; go_must (refine wpList_append_bytes rfl _ _ rfl w.heap.size v1 l0 y0 rfl O2.out a2 p2 rfl H2.out hs1 hb2 ?_))
  rintro v2 w2 o3 g3
  have B3 := Lib.hid (B2.out.grown g3 hb2 O2.out.row)
  have O3 := Lib.hid o3
  clear o3 g3 O2 B2 H2 hb2
  go_wp2_with fail
  go_loopw [5, 19] (fun s i wr => ∃ (k : Nat) (acc : List Nat), k ≤ l.length ∧ i = .int .i64 k ∧ Hid (OwnB wr w.heap.size s acc) ∧ Hid (acc ++ effsL (l.drop k) = F) ∧ acc.length ≤ 1010 + 92 * k ∧ Hid (Below w.heap.size w wr)) (fun _ i _ => l.length - (intOf i).toNat)
  case atStart => exact ⟨0, l0 ++ y0, Nat.zero_le _, rfl, O3, Lib.hid (by rw [HF.out]; rfl), by rw [List.length_append]; omega, B3⟩
  case round =>
    clear O3 B3 HF
    obtain ⟨k, acc, hk, rfl, HW, HS, hac, hbw⟩ := hrel
    by_cases hlt : k < l.length
    · obtain ⟨b, o, rfl, hb, ld, hrest⟩ := (HO.out.below hbw.out).ef k hlt
      have h1 := HR.out _ (List.getElem_mem hlt)
      have hel := effL_len h1
      have HN := Lib.hid (HS.out.symm.trans (by rw [effsL_drop hlt, ← List.append_assoc]))
      have P0 : Hid (PutI w wr.heap.size l[k] acc u5 (wr.alloc (.cells (efC l[k]) 27))) := Lib.hid ⟨own_alloc HW.out _, Row.new _ _ _, hbw.out.alloc hbw.out.size _⟩
      clear hrest HS HW hbw
      generalize l[k] = y at *
      obtain ⟨r1, r2, r3, r4, r5, r6⟩ := oneB_of h1
      obtain ⟨m1, e1, t1, q1⟩ := wrap_64 y.key (by omega) (by omega)
      obtain ⟨m2, e2, t2, q2⟩ := wrap_64 y.kind (by omega) (by omega)
      obtain ⟨m3, e3, t3, q3⟩ := wrap_64 y.tries (by omega) (by omega)
      obtain ⟨m4, e4, t4, q4⟩ := wrap_tick y.due (by omega) (by omega)
      obtain ⟨m5, e5, t5, q5⟩ := wrap_64 y.batch (by omega) (by omega)
      obtain ⟨y1, hy1⟩ : ∃ y, numsL [m1, m2, m3, m4, m5] = y := ⟨_, rfl⟩
      have C1 := Lib.hid (fun a2 c2 W h => numN a2 c2 [m1, m2, m3, m4, m5] W h (by simp) y1 hy1)
      have Y1 := Lib.hid (show Bytes y1 by rw [← hy1]; exact numsL_bytes _)
      have N5 := Lib.hid (fun W => nums_five m1 m2 m3 m4 m5 q1 q2 q3 q4 q5 W)
      obtain ⟨y2, hy2⟩ : ∃ z, textsL [y.order] = z := ⟨_, rfl⟩
      have C2 := Lib.hid (fun a2 c2 W h => textN a2 c2 [y.order] W h (by simp) (by intro x hx; simp at hx; subst hx; omega) y2 hy2)
      have Y2 := Lib.hid (show Bytes y2 by rw [← hy2]; exact textsL_bytes _)
      have he2 : effL y = y1 ++ y2 := by rw [← hy1, ← hy2]; exact effL_two y m1 m2 m3 m4 m5 t1 t2 t3 t4 t5
      rw [he2, List.length_append] at hel
      rw [he2] at HN
      obtain ⟨c0, c1, c2, c3, c4, c5⟩ := P0.out.row.c
      have ld2 := ld_row P0.out.row
      have A2 := Lib.hid (P0.out.below ((Below.refl _ _).alloc (Nat.le_refl _) (Obj.cells #[Value.int IntKind.u64 (m1 : Int), Value.int IntKind.u64 (m2 : Int), Value.int IntKind.u64 (m3 : Int), Value.int IntKind.u64 (m4 : Int), Value.int IntKind.u64 (m5 : Int)] 69)))
      have T2 : Hid (NumsP ((wr.alloc (.cells (efC y) 27)).alloc (Obj.cells #[Value.int IntKind.u64 (m1 : Int), Value.int IntKind.u64 (m2 : Int), Value.int IntKind.u64 (m3 : Int), Value.int IntKind.u64 (m4 : Int), Value.int IntKind.u64 (m5 : Int)] 69)) (some ⟨wr.heap.size + 1, 0, none⟩) 5 [m1, m2, m3, m4, m5]) := Lib.hid (by
        have := N5.out (wr.alloc (.cells (efC y) 27))
        rwa [show (wr.alloc (.cells (efC y) 27)).heap.size = wr.heap.size + 1 by simp] at this)
      clear h1 r1 r2 r3 r4 r5 r6 q1 q2 q3 q4 q5 t1 t2 t3 t4 t5 hy1 hy2 he2
      go_wp2_with fail
      generalize (wr.alloc (.cells (efC y) 27)).alloc (Obj.cells #[Value.int IntKind.u64 (m1 : Int), Value.int IntKind.u64 (m2 : Int), Value.int IntKind.u64 (m3 : Int), Value.int IntKind.u64 (m4 : Int), Value.int IntKind.u64 (m5 : Int)] 69) = W2 at *
      refine (C1.out _ _ _ T2.out).mono ?_
      rintro e x3 ⟨u3, rfl, q3, b3⟩
      obtain ⟨a3, p3, e3', h3⟩ := q3.bytes Y1.out
      subst e3'
      have D3 := Lib.hid (A2.out.below b3)
      have H3 := Lib.hid h3
      have hs3 : acc.length + y1.length ≤ 10000000 := by omega
      have hb3 := D3.out.low.size
      clear q3 b3 h3 A2 T2 P0 c0 c1 c2 c3 c4 c5 ld ld2 C1 N5
      go_wp2_with (at_builtin; go_must (refine wpList_append_bytes rfl _ _ rfl w.heap.size _ acc y1 rfl D3.out.own a3 p3 rfl H3.out hs3 hb3 ?_))
      rintro v4 w4 o4 g4
      have P4 := Lib.hid (D3.out.put o4 g4)
      obtain ⟨_, _, _, _, _, c5⟩ := P4.out.row.c
      have A4 := Lib.hid (P4.out.below ((Below.refl _ _).alloc (Nat.le_refl _) (Obj.cells #[Value.string y.order] 9)))
      have T4 := Lib.hid (strs_one y.order w4)
      clear o4 g4 D3 H3 hb3
      go_wp2_with fail
      generalize w4.alloc (Obj.cells #[Value.string y.order] 9) = W4 at *
      refine (C2.out _ _ _ T4.out).mono ?_
      rintro e x5 ⟨u5', rfl, q5, b5⟩
      obtain ⟨a5, p5, e5', h5⟩ := q5.bytes Y2.out
      subst e5'
      have D5 := Lib.hid (A4.out.below b5)
      have H5 := Lib.hid h5
      have hs5 : (acc ++ y1).length + y2.length ≤ 10000000 := by rw [List.length_append]; omega
      have hb5 := D5.out.low.size
      clear q5 b5 h5 A4 T4 P4 c5 C2
      go_wp2_with (at_builtin; go_must (refine wpList_append_bytes rfl _ _ rfl w.heap.size _ (acc ++ y1) y2 rfl D5.out.own a5 p5 rfl H5.out hs5 hb5 ?_))
      rintro v6 w6 o6 g6
      have P6 := Lib.hid (D5.out.put o6 g6)
      clear o6 g6 D5 H5 hb5
      go_wp2_with fail
      go_roundw
      case rel => exact ⟨k + 1, acc ++ (y1 ++ y2), hlt, by go_num, Lib.hid P6.out.own, Lib.hid (by rw [HN.out]), by simp only [List.length_append]; omega, Lib.hid P6.out.low⟩
      case measure => simp [intOf]; omega
    · have HE := Lib.hid (show F = acc by rw [← HS.out, List.drop_eq_nil_of_le (by omega)]; exact List.append_nil _)
      go_wp2_with fail
      go_ret
      exact ⟨_, rfl, by rw [HE.out]; exact HW.out, hbw.out⟩

end Go.Proofs.Ytciijkognhdddaa
