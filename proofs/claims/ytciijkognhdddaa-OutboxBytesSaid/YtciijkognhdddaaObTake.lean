/- What read and Take of package outbox answer. -/
import Derived.Test.YtciijkognhdddaaObFindC
import Derived.Test.YtciijkognhdddaaObTk
import Derived.Test.YtciijkognhdddaaScRead
namespace Go.Proofs.Ytciijkognhdddaa
set_option maxRecDepth 100000
open Go.RowKit Go.ChangeShapes Go.WideShapes Go.ChangeAt
attribute [local go_sem ↓] ldEf stEf alEf bxEf eqEf bdEf bsEf
attribute [local go_sem] al_ef bx_ef st_new bd_ef bs_ef bs_ef0

set_option maxHeartbeats 8000000 in
theorem obRead_any (w : World) (g : Nat) (s : Sc) (h : RdS w g s) : Calls Try.prog 38 #[.pointer (some ⟨g, 0, none⟩)] w (ReadS g (efV (effS s).1) (effS s).2 w) := by
  have hg := h.lt
  have K0 := Lib.hid (Rin.begin h 27 (efC noEf))
  have y1 := h.bytes
  rcases h1 : numS 1000000000000 s with ⟨v1, s1⟩
  have C1 := Lib.hid (fun W hW => show Calls Try.prog 37 #[.pointer (some ⟨g, 0, none⟩), .int .u64 1000000000000] W (ReadS g (.int .u64 (v1 : Int)) s1 W) by have := rd_num W g s 1000000000000 hW (by decide); rwa [h1] at this)
  have y2 : BytesS s1 := by have := numS_bytes y1 1000000000000; rwa [h1] at this
  have n1 : v1 ≤ 1000000000000 := by have := numS_le 1000000000000 s y1; rwa [h1] at this
  have e1 : IntKind.i64.wrap (v1 : Int) = (v1 : Int) := by rw [IntKind.wrap_i64]; omega
  rcases h2 : numS 7 s1 with ⟨v2, s2⟩
  have C2 := Lib.hid (fun W hW => show Calls Try.prog 37 #[.pointer (some ⟨g, 0, none⟩), .int .u64 7] W (ReadS g (.int .u64 (v2 : Int)) s2 W) by have := rd_num W g s1 7 hW (by decide); rwa [h2] at this)
  have y3 : BytesS s2 := by have := numS_bytes y2 7; rwa [h2] at this
  have n2 : v2 ≤ 7 := by have := numS_le 7 s1 y2; rwa [h2] at this
  have e2 : IntKind.i64.wrap (v2 : Int) = (v2 : Int) := by rw [IntKind.wrap_i64]; omega
  rcases h3 : numS 1000000 s2 with ⟨v3, s3⟩
  have C3 := Lib.hid (fun W hW => show Calls Try.prog 37 #[.pointer (some ⟨g, 0, none⟩), .int .u64 1000000] W (ReadS g (.int .u64 (v3 : Int)) s3 W) by have := rd_num W g s2 1000000 hW (by decide); rwa [h3] at this)
  have y4 : BytesS s3 := by have := numS_bytes y3 1000000; rwa [h3] at this
  have n3 : v3 ≤ 1000000 := by have := numS_le 1000000 s2 y3; rwa [h3] at this
  have e3 : IntKind.i64.wrap (v3 : Int) = (v3 : Int) := by rw [IntKind.wrap_i64]; omega
  rcases h4 : numS 1099511627776 s3 with ⟨v4, s4⟩
  have C4 := Lib.hid (fun W hW => show Calls Try.prog 37 #[.pointer (some ⟨g, 0, none⟩), .int .u64 1099511627776] W (ReadS g (.int .u64 (v4 : Int)) s4 W) by have := rd_num W g s3 1099511627776 hW (by decide); rwa [h4] at this)
  have y5 : BytesS s4 := by have := numS_bytes y4 1099511627776; rwa [h4] at this
  have n4 : v4 ≤ 1099511627776 := by have := numS_le 1099511627776 s3 y4; rwa [h4] at this
  have e4 : IntKind.i64.wrap (v4 : Int) = (v4 : Int) := by rw [IntKind.wrap_i64]; omega
  rcases h5 : numS 1000000000000 s4 with ⟨v5, s5⟩
  have C5 := Lib.hid (fun W hW => show Calls Try.prog 37 #[.pointer (some ⟨g, 0, none⟩), .int .u64 1000000000000] W (ReadS g (.int .u64 (v5 : Int)) s5 W) by have := rd_num W g s4 1000000000000 hW (by decide); rwa [h5] at this)
  have y6 : BytesS s5 := by have := numS_bytes y5 1000000000000; rwa [h5] at this
  have n5 : v5 ≤ 1000000000000 := by have := numS_le 1000000000000 s4 y5; rwa [h5] at this
  have e5 : IntKind.i64.wrap (v5 : Int) = (v5 : Int) := by rw [IntKind.wrap_i64]; omega
  rcases h6 : textS 32 s5 with ⟨v6, s6⟩
  have C6 := Lib.hid (fun W hW => show Calls Try.prog 55 #[.pointer (some ⟨g, 0, none⟩), .int .i64 32] W (ReadS g (.string (strB v6)) s6 W) by have := rd_text W g s5 32 hW (by decide); rwa [h6] at this)
  have HP := Lib.hid (show (effS s).1 = ⟨(v1 : Int), (v5 : Int), (v4 : Int), (v2 : Int), (v3 : Int), strB v6⟩ ∧ (effS s).2 = s6 by simp only [effS, h1, h2, h3, h4, h5, h6]; exact ⟨trivial, trivial⟩)
  generalize (effS s).1 = E1 at *
  generalize (effS s).2 = E2 at *
  clear h h1 h2 h3 h4 h5 h6 y1 y2 y3 y4 y5 y6 n1 n2 n3 n4 n5
  go_enter Try.func38, Try.ntmps38
  go_wp2_with fail
  generalize (w.alloc (Obj.cells (efC noEf) 27)).alloc (Obj.cells (efC noEf) 27) = W0 at *
  refine (C1.out _ K0.out.rd).mono ?_
  rintro e w1 ⟨rfl, r1, b1⟩
  have J1 := Lib.hid (K0.out.call hg r1 b1)
  obtain ⟨c0, c1, c2, c3, c4, c5⟩ := Row.c (e := noEf) J1.out.var
  obtain ⟨f0, f1, f2, f3, f4, f5⟩ := Row.f (e := noEf) J1.out.var
  clear r1 b1
  have K1 : Hid (Rin w g 27 (efC noEf) (efC ⟨(v1 : Int), 0, 0, 0, 0, ⟨#[]⟩⟩) s1 (w1.setCell ⟨w.heap.size + 1, 0, none⟩ (.int .i64 (v1 : Int)))) := Lib.hid (J1.out.set hg 0 (.int .i64 (v1 : Int)))
  go_wp2_with fail
  clear c0 c1 c2 c3 c4 c5 f0 f1 f2 f3 f4 f5
  generalize w1.setCell ⟨w.heap.size + 1, 0, none⟩ (.int .i64 (v1 : Int)) = W1 at *
  refine (C2.out _ K1.out.rd).mono ?_
  rintro e w2 ⟨rfl, r2, b2⟩
  have J2 := Lib.hid (K1.out.call hg r2 b2)
  obtain ⟨c0, c1, c2, c3, c4, c5⟩ := Row.c (e := ⟨(v1 : Int), 0, 0, 0, 0, ⟨#[]⟩⟩) J2.out.var
  obtain ⟨f0, f1, f2, f3, f4, f5⟩ := Row.f (e := ⟨(v1 : Int), 0, 0, 0, 0, ⟨#[]⟩⟩) J2.out.var
  clear r2 b2
  have K2 : Hid (Rin w g 27 (efC noEf) (efC ⟨(v1 : Int), 0, 0, (v2 : Int), 0, ⟨#[]⟩⟩) s2 (w2.setCell ⟨w.heap.size + 1, 3, none⟩ (.int .i64 (v2 : Int)))) := Lib.hid (J2.out.set hg 3 (.int .i64 (v2 : Int)))
  go_wp2_with fail
  clear c0 c1 c2 c3 c4 c5 f0 f1 f2 f3 f4 f5
  generalize w2.setCell ⟨w.heap.size + 1, 3, none⟩ (.int .i64 (v2 : Int)) = W2 at *
  refine (C3.out _ K2.out.rd).mono ?_
  rintro e w3 ⟨rfl, r3, b3⟩
  have J3 := Lib.hid (K2.out.call hg r3 b3)
  obtain ⟨c0, c1, c2, c3, c4, c5⟩ := Row.c (e := ⟨(v1 : Int), 0, 0, (v2 : Int), 0, ⟨#[]⟩⟩) J3.out.var
  obtain ⟨f0, f1, f2, f3, f4, f5⟩ := Row.f (e := ⟨(v1 : Int), 0, 0, (v2 : Int), 0, ⟨#[]⟩⟩) J3.out.var
  clear r3 b3
  have K3 : Hid (Rin w g 27 (efC noEf) (efC ⟨(v1 : Int), 0, 0, (v2 : Int), (v3 : Int), ⟨#[]⟩⟩) s3 (w3.setCell ⟨w.heap.size + 1, 4, none⟩ (.int .i64 (v3 : Int)))) := Lib.hid (J3.out.set hg 4 (.int .i64 (v3 : Int)))
  go_wp2_with fail
  clear c0 c1 c2 c3 c4 c5 f0 f1 f2 f3 f4 f5
  generalize w3.setCell ⟨w.heap.size + 1, 4, none⟩ (.int .i64 (v3 : Int)) = W3 at *
  refine (C4.out _ K3.out.rd).mono ?_
  rintro e w4 ⟨rfl, r4, b4⟩
  have J4 := Lib.hid (K3.out.call hg r4 b4)
  obtain ⟨c0, c1, c2, c3, c4, c5⟩ := Row.c (e := ⟨(v1 : Int), 0, 0, (v2 : Int), (v3 : Int), ⟨#[]⟩⟩) J4.out.var
  obtain ⟨f0, f1, f2, f3, f4, f5⟩ := Row.f (e := ⟨(v1 : Int), 0, 0, (v2 : Int), (v3 : Int), ⟨#[]⟩⟩) J4.out.var
  clear r4 b4
  have K4 : Hid (Rin w g 27 (efC noEf) (efC ⟨(v1 : Int), 0, (v4 : Int), (v2 : Int), (v3 : Int), ⟨#[]⟩⟩) s4 (w4.setCell ⟨w.heap.size + 1, 2, none⟩ (.int .i64 (v4 : Int)))) := Lib.hid (J4.out.set hg 2 (.int .i64 (v4 : Int)))
  go_wp2_with fail
  clear c0 c1 c2 c3 c4 c5 f0 f1 f2 f3 f4 f5
  generalize w4.setCell ⟨w.heap.size + 1, 2, none⟩ (.int .i64 (v4 : Int)) = W4 at *
  refine (C5.out _ K4.out.rd).mono ?_
  rintro e w5 ⟨rfl, r5, b5⟩
  have J5 := Lib.hid (K4.out.call hg r5 b5)
  obtain ⟨c0, c1, c2, c3, c4, c5⟩ := Row.c (e := ⟨(v1 : Int), 0, (v4 : Int), (v2 : Int), (v3 : Int), ⟨#[]⟩⟩) J5.out.var
  obtain ⟨f0, f1, f2, f3, f4, f5⟩ := Row.f (e := ⟨(v1 : Int), 0, (v4 : Int), (v2 : Int), (v3 : Int), ⟨#[]⟩⟩) J5.out.var
  clear r5 b5
  have K5 : Hid (Rin w g 27 (efC noEf) (efC ⟨(v1 : Int), (v5 : Int), (v4 : Int), (v2 : Int), (v3 : Int), ⟨#[]⟩⟩) s5 (w5.setCell ⟨w.heap.size + 1, 1, none⟩ (.int .i64 (v5 : Int)))) := Lib.hid (J5.out.set hg 1 (.int .i64 (v5 : Int)))
  go_wp2_with fail
  clear c0 c1 c2 c3 c4 c5 f0 f1 f2 f3 f4 f5
  generalize w5.setCell ⟨w.heap.size + 1, 1, none⟩ (.int .i64 (v5 : Int)) = W5 at *
  refine (C6.out _ K5.out.rd).mono ?_
  rintro e w6 ⟨rfl, r6, b6⟩
  have J6 := Lib.hid (K5.out.call hg r6 b6)
  obtain ⟨c0, c1, c2, c3, c4, c5⟩ := Row.c (e := ⟨(v1 : Int), (v5 : Int), (v4 : Int), (v2 : Int), (v3 : Int), ⟨#[]⟩⟩) J6.out.var
  obtain ⟨f0, f1, f2, f3, f4, f5⟩ := Row.f (e := ⟨(v1 : Int), (v5 : Int), (v4 : Int), (v2 : Int), (v3 : Int), ⟨#[]⟩⟩) J6.out.var
  clear r6 b6
  have K6 : Hid (Rin w g 27 (efC noEf) (efC ⟨(v1 : Int), (v5 : Int), (v4 : Int), (v2 : Int), (v3 : Int), strB v6⟩) s6 (w6.setCell ⟨w.heap.size + 1, 5, none⟩ (.string (strB v6)))) := Lib.hid (J6.out.set hg 5 (.string (strB v6)))
  have ld := ld_row (e := ⟨(v1 : Int), (v5 : Int), (v4 : Int), (v2 : Int), (v3 : Int), strB v6⟩) K6.out.var
  have hst : ∀ y, StX 27 (.pointer (some ⟨w.heap.size, 0, none⟩)) (efV y) (w6.setCell ⟨w.heap.size + 1, 5, none⟩ (.string (strB v6))) = .ok .skip ((w6.setCell ⟨w.heap.size + 1, 5, none⟩ (.string (strB v6))).setRow w.heap.size (efC y)) := fun y => st_row (o := noEf) K6.out.res y
  generalize (⟨(v1 : Int), (v5 : Int), (v4 : Int), (v2 : Int), (v3 : Int), strB v6⟩ : Ef) = z at *
  go_wp2_with fail
  (try simp only [Exit.inBlock, Exit.then])
  refine bodyPost_ret (v := efV z) ?_ rfl ⟨by rw [HP.out.1], by rw [HP.out.2]; exact (K6.out.fin hg _).1, (K6.out.fin hg _).2⟩
  exact results_cell_row rfl _ _ w.heap.size 27 _ (0, 0) _ rfl (row_set (o := noEf) K6.out.res z) Try.underlying27 rfl (size6 z)

end Go.Proofs.Ytciijkognhdddaa
