/- ObTk, ObTake, ObTake2, ObPut: together. -/
import Derived.Test.YtfmpibmhhfmajaaGreatDoorMgEffects
import Derived.Test.YtfmpibmhhfmajaaGreatDoorPSc
namespace Go.Proofs.YtfmpibmhhfmajaaGreatDoor

/- ObTk: Plain facts on an outbox that is read effect by effect. -/
section
set_option maxRecDepth 100000

theorem numS_zero {m : Nat} {s : Sc} (h : (numS m s).2 = none) : numS m s = (0, none) := by
  cases s with
  | none => rfl
  | some r =>
    unfold numS at h ⊢
    simp only at h ⊢
    split at h
    · cases h
    · rename_i hn
      rw [if_neg hn]
/-- With a lower limit the same is read, or nothing. -/
theorem numS_limit {s : Sc} (hb : BytesS s) {m M : Nat} (hm : m ≤ M) : numS m s = (0, none) ∨ numS m s = numS M s := by
  cases e : (numS m s).2 with
  | none => exact .inl (numS_zero e)
  | some r =>
    refine .inr ?_
    have h1 := numS_back hb e
    have h2 := numS_le m s hb
    have h3 := numS_put (m := M) (Nat.le_trans h2 hm) r
    rw [← h1] at h3
    rw [h3, ← e]
theorem numS_same {s : Sc} (hb : BytesS s) {m M : Nat} (hm : m ≤ M) (h : (numS M s).1 ≤ m) : numS m s = numS M s := by
  cases e : (numS M s).2 with
  | none =>
    rw [numS_zero e]
    rcases numS_limit hb hm with h1 | h1
    · exact h1
    · rw [h1, numS_zero e]
  | some r =>
    have h1 := numS_back hb e
    have h3 := numS_put (m := m) h r
    rw [← h1] at h3
    rw [h3, ← e]
theorem effsS_snoc : ∀ (k : Nat) (s : Sc), effsS (k + 1) s = ((effsS k s).1 ++ [(effS (effsS k s).2).1], (effS (effsS k s).2).2)
  | 0, s => by simp [effsS]
  | k + 1, s => by
    have ih := effsS_snoc k (effS s).2
    rw [effsS, ih]
    simp [effsS]
theorem effsS_add : ∀ (k j : Nat) (s : Sc), effsS (k + j) s = ((effsS k s).1 ++ (effsS j (effsS k s).2).1, (effsS j (effsS k s).2).2)
  | 0, j, s => by simp [effsS]
  | k + 1, j, s => by
    have ih := effsS_add k j (effS s).2
    rw [show k + 1 + j = (k + j) + 1 by omega, effsS, ih]
    simp [effsS]
theorem right_prefix {a b : List Ef} (h : rightE (a ++ b) = true) : rightE a = true := by
  rw [rightE_iff] at h ⊢
  refine ⟨fun e he => h.1 e (by simp [he]), ?_⟩
  have := h.2
  rw [List.map_append, List.pairwise_append] at this
  exact this.1
theorem box_none {s : Sc} (h : (boxS s).2 = none ∨ rightE (boxS s).1 = false) : boxO s = none := by
  unfold boxO
  rcases h with h | h <;> rw [h] <;> simp
theorem box_bad {s : Sc} (hb : BytesS s) (h : (numS 1000000000000 s).2 = none) : boxO s = none := by
  refine box_none (.inl ?_)
  unfold boxS
  rcases numS_limit hb (show 1048576 ≤ 1000000000000 by decide) with h1 | h1
  · rw [h1]; rfl
  · rw [h1, numS_zero h]; rfl
/-- Where one can't be read, or can't follow, there is no outbox. -/
theorem box_fail {s : Sc} (hb : BytesS s) {k : Nat} (hk : k < (numS 1000000000000 s).1) (h : (effsS (k + 1) (numS 1000000000000 s).2).2 = none ∨ rightE (effsS (k + 1) (numS 1000000000000 s).2).1 = false) : boxO s = none := by
  refine box_none ?_
  unfold boxS
  rcases numS_limit hb (show 1048576 ≤ 1000000000000 by decide) with h1 | h1
  · rw [h1]; exact .inl rfl
  · rw [h1]
    generalize numS 1000000000000 s = q at *
    obtain ⟨j, hj⟩ : ∃ j, q.1 = (k + 1) + j := ⟨q.1 - (k + 1), by omega⟩
    rw [hj, effsS_add]
    rcases h with h | h
    · left
      simp only [h]
      exact effsS_none j
    · right
      cases e : rightE ((effsS (k + 1) q.2).1 ++ (effsS j (effsS (k + 1) q.2).2).1) with
      | false => rfl
      | true =>
        rw [right_prefix e] at h
        cases h
theorem box_done {s : Sc} (hb : BytesS s) (h : (numS 1000000000000 s).1 ≤ 1048576) : boxS s = effsS (numS 1000000000000 s).1 (numS 1000000000000 s).2 := by
  unfold boxS
  rw [numS_same hb (show 1048576 ≤ 1000000000000 by decide) h]
theorem effL_pos (e : Ef) : 1 ≤ (effL e).length := by
  have := numL_pos e.key.toNat
  unfold effL
  rw [List.length_append]
  omega
theorem effsL_pos : ∀ (l : List Ef), l.length ≤ (effsL l).length
  | [] => Nat.le_refl _
  | e :: r => by
    have h1 := effL_pos e
    have h2 := effsL_pos r
    rw [effsL_cons, List.length_append, List.length_cons]
    omega
/-- Each that is read has a byte at least. -/
theorem effsS_few {s : Sc} (hb : BytesS s) {k : Nat} {b : List Nat} (hs : s = some b) (h : (effsS k s).2.isSome = true) : k ≤ b.length := by
  obtain ⟨r, hr⟩ := Option.isSome_iff_exists.1 h
  have h1 := effsS_back k hb hr
  rw [hs] at h1
  injection h1 with h1
  have h2 := effsL_pos (effsS k (some b)).1
  rw [effsS_len] at h2
  rw [h1, List.length_append]
  omega
theorem numS_short {s : Sc} {m : Nat} {b r : List Nat} (hs : s = some b) (h : (numS m s).2 = some r) : r.length ≤ b.length := by
  subst hs
  unfold numS at h
  simp only at h
  split at h
  · injection h with h
    rw [← h, List.length_drop]
    omega
  · cases h
theorem effS_order {s : Sc} (h : BytesS s) : (effS s).1.order.size ≤ 32 := by
  have b5 := numS_bytes (numS_bytes (numS_bytes (numS_bytes (numS_bytes h 1000000000000) 7) 1000000) 1099511627776) 1000000000000
  unfold effS
  simp only [strB_size]
  exact textS_le 32 b5
theorem effsS_order : ∀ (k : Nat) {s : Sc} (_ : BytesS s), ∀ e ∈ (effsS k s).1, e.order.size ≤ 32
  | 0, _, _ => fun e he => by simp [effsS] at he
  | k + 1, s, h => fun e he => by
    rw [effsS] at he
    rcases List.mem_cons.1 he with rfl | he
    · exact effS_order h
    · exact effsS_order k (effS_bytes h) e he
end

/- ObTake: What read and Take of package outbox answer. -/
section
set_option maxRecDepth 100000
open Go.RowKit Go.ChangeShapes Go.WideShapes Go.ChangeAt
attribute [local go_sem ↓] ldEf stEf alEf bxEf eqEf bdEf bsEf
attribute [local go_sem] al_ef bx_ef st_new bd_ef bs_ef bs_ef0

set_option maxHeartbeats 8000000 in
theorem obRead_any (w : World) (g : Nat) (s : Sc) (h : RdS w g s) : Calls Tryz.prog 137 #[.pointer (some ⟨g, 0, none⟩)] w (ReadS g (efV (effS s).1) (effS s).2 w) := by
  have hg := h.lt
  have K0 := Lib.hid (Rin.begin h 138 (efC noEf))
  have y1 := h.bytes
  rcases h1 : numS 1000000000000 s with ⟨v1, s1⟩
  have C1 := Lib.hid (fun W hW => show Calls Tryz.prog 89 #[.pointer (some ⟨g, 0, none⟩), .int .u64 1000000000000] W (ReadS g (.int .u64 (v1 : Int)) s1 W) by have := rd_num W g s 1000000000000 hW (by decide); rwa [h1] at this)
  have y2 : BytesS s1 := by have := numS_bytes y1 1000000000000; rwa [h1] at this
  have n1 : v1 ≤ 1000000000000 := by have := numS_le 1000000000000 s y1; rwa [h1] at this
  have e1 : IntKind.i64.wrap (v1 : Int) = (v1 : Int) := by rw [IntKind.wrap_i64]; omega
  rcases h2 : numS 7 s1 with ⟨v2, s2⟩
  have C2 := Lib.hid (fun W hW => show Calls Tryz.prog 89 #[.pointer (some ⟨g, 0, none⟩), .int .u64 7] W (ReadS g (.int .u64 (v2 : Int)) s2 W) by have := rd_num W g s1 7 hW (by decide); rwa [h2] at this)
  have y3 : BytesS s2 := by have := numS_bytes y2 7; rwa [h2] at this
  have n2 : v2 ≤ 7 := by have := numS_le 7 s1 y2; rwa [h2] at this
  have e2 : IntKind.i64.wrap (v2 : Int) = (v2 : Int) := by rw [IntKind.wrap_i64]; omega
  rcases h3 : numS 1000000 s2 with ⟨v3, s3⟩
  have C3 := Lib.hid (fun W hW => show Calls Tryz.prog 89 #[.pointer (some ⟨g, 0, none⟩), .int .u64 1000000] W (ReadS g (.int .u64 (v3 : Int)) s3 W) by have := rd_num W g s2 1000000 hW (by decide); rwa [h3] at this)
  have y4 : BytesS s3 := by have := numS_bytes y3 1000000; rwa [h3] at this
  have n3 : v3 ≤ 1000000 := by have := numS_le 1000000 s2 y3; rwa [h3] at this
  have e3 : IntKind.i64.wrap (v3 : Int) = (v3 : Int) := by rw [IntKind.wrap_i64]; omega
  rcases h4 : numS 1099511627776 s3 with ⟨v4, s4⟩
  have C4 := Lib.hid (fun W hW => show Calls Tryz.prog 89 #[.pointer (some ⟨g, 0, none⟩), .int .u64 1099511627776] W (ReadS g (.int .u64 (v4 : Int)) s4 W) by have := rd_num W g s3 1099511627776 hW (by decide); rwa [h4] at this)
  have y5 : BytesS s4 := by have := numS_bytes y4 1099511627776; rwa [h4] at this
  have n4 : v4 ≤ 1099511627776 := by have := numS_le 1099511627776 s3 y4; rwa [h4] at this
  have e4 : IntKind.i64.wrap (v4 : Int) = (v4 : Int) := by rw [IntKind.wrap_i64]; omega
  rcases h5 : numS 1000000000000 s4 with ⟨v5, s5⟩
  have C5 := Lib.hid (fun W hW => show Calls Tryz.prog 89 #[.pointer (some ⟨g, 0, none⟩), .int .u64 1000000000000] W (ReadS g (.int .u64 (v5 : Int)) s5 W) by have := rd_num W g s4 1000000000000 hW (by decide); rwa [h5] at this)
  have y6 : BytesS s5 := by have := numS_bytes y5 1000000000000; rwa [h5] at this
  have n5 : v5 ≤ 1000000000000 := by have := numS_le 1000000000000 s4 y5; rwa [h5] at this
  have e5 : IntKind.i64.wrap (v5 : Int) = (v5 : Int) := by rw [IntKind.wrap_i64]; omega
  rcases h6 : textS 32 s5 with ⟨v6, s6⟩
  have C6 := Lib.hid (fun W hW => show Calls Tryz.prog 90 #[.pointer (some ⟨g, 0, none⟩), .int .i64 32] W (ReadS g (.string (strB v6)) s6 W) by have := rd_text W g s5 32 hW (by decide); rwa [h6] at this)
  have HP := Lib.hid (show (effS s).1 = ⟨(v1 : Int), (v5 : Int), (v4 : Int), (v2 : Int), (v3 : Int), strB v6⟩ ∧ (effS s).2 = s6 by simp only [effS, h1, h2, h3, h4, h5, h6]; exact ⟨trivial, trivial⟩)
  generalize (effS s).1 = E1 at *
  generalize (effS s).2 = E2 at *
  clear h h1 h2 h3 h4 h5 h6 y1 y2 y3 y4 y5 y6 n1 n2 n3 n4 n5
  go_enter Tryz.func137, Tryz.ntmps137
  go_wp2_with fail
  generalize (w.alloc (Obj.cells (efC noEf) 138)).alloc (Obj.cells (efC noEf) 138) = W0 at *
  refine (C1.out _ K0.out.rd).mono ?_
  rintro e w1 ⟨rfl, r1, b1⟩
  have J1 := Lib.hid (K0.out.call hg r1 b1)
  obtain ⟨c0, c1, c2, c3, c4, c5⟩ := Row.c (e := noEf) J1.out.var
  obtain ⟨f0, f1, f2, f3, f4, f5⟩ := Row.f (e := noEf) J1.out.var
  clear r1 b1
  have K1 : Hid (Rin w g 138 (efC noEf) (efC ⟨(v1 : Int), 0, 0, 0, 0, ⟨#[]⟩⟩) s1 (w1.setCell ⟨w.heap.size + 1, 0, none⟩ (.int .i64 (v1 : Int)))) := Lib.hid (J1.out.set hg 0 (.int .i64 (v1 : Int)))
  go_wp2_with fail
  clear c0 c1 c2 c3 c4 c5 f0 f1 f2 f3 f4 f5
  generalize w1.setCell ⟨w.heap.size + 1, 0, none⟩ (.int .i64 (v1 : Int)) = W1 at *
  refine (C2.out _ K1.out.rd).mono ?_
  rintro e w2 ⟨rfl, r2, b2⟩
  have J2 := Lib.hid (K1.out.call hg r2 b2)
  obtain ⟨c0, c1, c2, c3, c4, c5⟩ := Row.c (e := ⟨(v1 : Int), 0, 0, 0, 0, ⟨#[]⟩⟩) J2.out.var
  obtain ⟨f0, f1, f2, f3, f4, f5⟩ := Row.f (e := ⟨(v1 : Int), 0, 0, 0, 0, ⟨#[]⟩⟩) J2.out.var
  clear r2 b2
  have K2 : Hid (Rin w g 138 (efC noEf) (efC ⟨(v1 : Int), 0, 0, (v2 : Int), 0, ⟨#[]⟩⟩) s2 (w2.setCell ⟨w.heap.size + 1, 3, none⟩ (.int .i64 (v2 : Int)))) := Lib.hid (J2.out.set hg 3 (.int .i64 (v2 : Int)))
  go_wp2_with fail
  clear c0 c1 c2 c3 c4 c5 f0 f1 f2 f3 f4 f5
  generalize w2.setCell ⟨w.heap.size + 1, 3, none⟩ (.int .i64 (v2 : Int)) = W2 at *
  refine (C3.out _ K2.out.rd).mono ?_
  rintro e w3 ⟨rfl, r3, b3⟩
  have J3 := Lib.hid (K2.out.call hg r3 b3)
  obtain ⟨c0, c1, c2, c3, c4, c5⟩ := Row.c (e := ⟨(v1 : Int), 0, 0, (v2 : Int), 0, ⟨#[]⟩⟩) J3.out.var
  obtain ⟨f0, f1, f2, f3, f4, f5⟩ := Row.f (e := ⟨(v1 : Int), 0, 0, (v2 : Int), 0, ⟨#[]⟩⟩) J3.out.var
  clear r3 b3
  have K3 : Hid (Rin w g 138 (efC noEf) (efC ⟨(v1 : Int), 0, 0, (v2 : Int), (v3 : Int), ⟨#[]⟩⟩) s3 (w3.setCell ⟨w.heap.size + 1, 4, none⟩ (.int .i64 (v3 : Int)))) := Lib.hid (J3.out.set hg 4 (.int .i64 (v3 : Int)))
  go_wp2_with fail
  clear c0 c1 c2 c3 c4 c5 f0 f1 f2 f3 f4 f5
  generalize w3.setCell ⟨w.heap.size + 1, 4, none⟩ (.int .i64 (v3 : Int)) = W3 at *
  refine (C4.out _ K3.out.rd).mono ?_
  rintro e w4 ⟨rfl, r4, b4⟩
  have J4 := Lib.hid (K3.out.call hg r4 b4)
  obtain ⟨c0, c1, c2, c3, c4, c5⟩ := Row.c (e := ⟨(v1 : Int), 0, 0, (v2 : Int), (v3 : Int), ⟨#[]⟩⟩) J4.out.var
  obtain ⟨f0, f1, f2, f3, f4, f5⟩ := Row.f (e := ⟨(v1 : Int), 0, 0, (v2 : Int), (v3 : Int), ⟨#[]⟩⟩) J4.out.var
  clear r4 b4
  have K4 : Hid (Rin w g 138 (efC noEf) (efC ⟨(v1 : Int), 0, (v4 : Int), (v2 : Int), (v3 : Int), ⟨#[]⟩⟩) s4 (w4.setCell ⟨w.heap.size + 1, 2, none⟩ (.int .i64 (v4 : Int)))) := Lib.hid (J4.out.set hg 2 (.int .i64 (v4 : Int)))
  go_wp2_with fail
  clear c0 c1 c2 c3 c4 c5 f0 f1 f2 f3 f4 f5
  generalize w4.setCell ⟨w.heap.size + 1, 2, none⟩ (.int .i64 (v4 : Int)) = W4 at *
  refine (C5.out _ K4.out.rd).mono ?_
  rintro e w5 ⟨rfl, r5, b5⟩
  have J5 := Lib.hid (K4.out.call hg r5 b5)
  obtain ⟨c0, c1, c2, c3, c4, c5⟩ := Row.c (e := ⟨(v1 : Int), 0, (v4 : Int), (v2 : Int), (v3 : Int), ⟨#[]⟩⟩) J5.out.var
  obtain ⟨f0, f1, f2, f3, f4, f5⟩ := Row.f (e := ⟨(v1 : Int), 0, (v4 : Int), (v2 : Int), (v3 : Int), ⟨#[]⟩⟩) J5.out.var
  clear r5 b5
  have K5 : Hid (Rin w g 138 (efC noEf) (efC ⟨(v1 : Int), (v5 : Int), (v4 : Int), (v2 : Int), (v3 : Int), ⟨#[]⟩⟩) s5 (w5.setCell ⟨w.heap.size + 1, 1, none⟩ (.int .i64 (v5 : Int)))) := Lib.hid (J5.out.set hg 1 (.int .i64 (v5 : Int)))
  go_wp2_with fail
  clear c0 c1 c2 c3 c4 c5 f0 f1 f2 f3 f4 f5
  generalize w5.setCell ⟨w.heap.size + 1, 1, none⟩ (.int .i64 (v5 : Int)) = W5 at *
  refine (C6.out _ K5.out.rd).mono ?_
  rintro e w6 ⟨rfl, r6, b6⟩
  have J6 := Lib.hid (K5.out.call hg r6 b6)
  obtain ⟨c0, c1, c2, c3, c4, c5⟩ := Row.c (e := ⟨(v1 : Int), (v5 : Int), (v4 : Int), (v2 : Int), (v3 : Int), ⟨#[]⟩⟩) J6.out.var
  obtain ⟨f0, f1, f2, f3, f4, f5⟩ := Row.f (e := ⟨(v1 : Int), (v5 : Int), (v4 : Int), (v2 : Int), (v3 : Int), ⟨#[]⟩⟩) J6.out.var
  clear r6 b6
  have K6 : Hid (Rin w g 138 (efC noEf) (efC ⟨(v1 : Int), (v5 : Int), (v4 : Int), (v2 : Int), (v3 : Int), strB v6⟩) s6 (w6.setCell ⟨w.heap.size + 1, 5, none⟩ (.string (strB v6)))) := Lib.hid (J6.out.set hg 5 (.string (strB v6)))
  have ld := ld_row (e := ⟨(v1 : Int), (v5 : Int), (v4 : Int), (v2 : Int), (v3 : Int), strB v6⟩) K6.out.var
  have hst : ∀ y, StX 138 (.pointer (some ⟨w.heap.size, 0, none⟩)) (efV y) (w6.setCell ⟨w.heap.size + 1, 5, none⟩ (.string (strB v6))) = .ok .skip ((w6.setCell ⟨w.heap.size + 1, 5, none⟩ (.string (strB v6))).setRow w.heap.size (efC y)) := fun y => st_row (o := noEf) K6.out.res y
  generalize (⟨(v1 : Int), (v5 : Int), (v4 : Int), (v2 : Int), (v3 : Int), strB v6⟩ : Ef) = z at *
  go_wp2_with fail
  (try simp only [Exit.inBlock, Exit.then])
  refine bodyPost_ret (v := efV z) ?_ rfl ⟨by rw [HP.out.1], by rw [HP.out.2]; exact (K6.out.fin hg _).1, (K6.out.fin hg _).2⟩
  exact results_cell_row rfl _ _ w.heap.size 138 _ (0, 0) _ rfl (row_set (o := noEf) K6.out.res z) Tryz.underlying138 rfl (size6 z)
end

/- ObTake2: What Take of package outbox answers. -/
section
set_option maxRecDepth 100000
open Go.RowKit Go.ChangeShapes Go.WideShapes Go.ChangeAt
attribute [local go_sem ↓] ldEf stEf alEf bxEf eqEf bdEf bsEf
attribute [local go_sem] al_ef bx_ef st_new bd_ef bs_ef bs_ef0

theorem OwnS.but {α : Type} {L : Lay α} {w w' : World} {base g : Nat} {v : Value} {l : List α} (h : OwnS L w base v l) (hb : But g w w') (hg : g < base) : OwnS L w' base v l := by
  refine h.grown fun k h1 h2 => hb.block k h2 (by omega)
/-- The outbox that stands next, or none, and whether there is one, are answered; the Reader, if there is one, is further on. -/
def TakeP (g : Nat) (s : Sc) (w : World) (e : Ending) (w' : World) : Prop :=
  ∃ v, e = .returned (.tuple #[v, .bool (boxO s).isSome]) ∧ OwnS LE w' w.heap.size v (boxV s) ∧ ((boxO s).isSome = true → RdS w' g (boxS s).2) ∧ But g w w'
theorem box_no {s : Sc} (h : boxO s = none) : boxV s = [] ∧ (boxO s).isSome = false := by
  unfold boxV
  rw [h]
  exact ⟨rfl, rfl⟩
theorem box_yes {s : Sc} (h1 : (boxS s).2.isSome = true) (h2 : rightE (boxS s).1 = true) : boxV s = (boxS s).1 ∧ (boxO s).isSome = true := by
  unfold boxV boxO
  rw [h1, h2]
  exact ⟨rfl, rfl⟩
theorem right_snoc {a : List Ef} (h : rightE a = true) (e : Ef) : followB a e = rightE (a ++ [e]) := follow_add h e

set_option maxHeartbeats 1000000 in
theorem obTake_any (w : World) (g : Nat) (s : Sc) (h : RdS w g s) (hl : ∀ b, s = some b → b.length ≤ 1000000) : Calls Tryz.prog 96 #[.pointer (some ⟨g, 0, none⟩)] w (TakeP g s w) := by
  have hg := h.lt
  have hb := h.bytes
  have C0 := Lib.hid (rd_num w g s 1000000000000 h (by decide))
  have HN := Lib.hid (fun k => box_fail hb (k := k))
  have HB := Lib.hid (box_bad hb)
  have HD := Lib.hid (box_done hb)
  have hb1 := numS_bytes hb 1000000000000
  have hn := numS_le 1000000000000 s hb
  have HK : Hid (∀ k, (effsS k (numS 1000000000000 s).2).2.isSome = true → k ≤ 1000000) := Lib.hid (fun k hk => by
    cases e : (numS 1000000000000 s).2 with
    | none => rw [e, effsS_none] at hk; cases hk
    | some r =>
      cases e2 : s with
      | none => rw [e2] at e; cases e
      | some b =>
        have h1 := effsS_few hb1 e hk
        have h2 := numS_short e2 e
        have h3 := hl b e2
        omega)
  have HO := Lib.hid (fun k => effsS_order k hb1)
  have HZ : Hid ((numS 1000000000000 s).2 = none → (numS 1000000000000 s).1 = 0) := Lib.hid (fun e => by rw [numS_zero e])
  clear h hb
  generalize (numS 1000000000000 s).1 = n at *
  generalize (numS 1000000000000 s).2 = S at *
  go_enter Tryz.func96, Tryz.ntmps96
  go_wp2_with fail
  refine C0.out.mono ?_
  rintro e w1 ⟨rfl, r1, b1⟩
  have R1 := Lib.hid r1
  have B1 := Lib.hid b1
  clear C0 r1 b1
  go_wp2_with fail
  go_loopw [4, 8] (fun s4 i wr => ∃ (k : Nat) (acc : List Ef) (sc : Sc), k ≤ n ∧ i = .int .u64 k ∧ Hid (OwnS LE wr w.heap.size s4 acc) ∧ Hid (effsS k S = (acc, sc)) ∧ Hid (acc.length = k) ∧ acc.length ≤ 1000000 ∧ Hid (RdS wr g sc) ∧ Hid (rightE acc = true) ∧ Hid (sc = none → n = 0) ∧ Hid (But g w wr)) (fun _ i _ => n - (intOf i).toNat)
  case atStart => exact ⟨0, [], S, Nat.zero_le _, rfl, Lib.hid (OwnS.nil _ _), Lib.hid rfl, Lib.hid rfl, by simp, R1, Lib.hid rfl, HZ, B1⟩
  case round =>
    clear R1 B1
    obtain ⟨k, acc, sc, hk, rfl, HW, HE, hal, hkm, R, HRA, HNZ, B⟩ := hrel
    have hgr := R.out.lt
    by_cases hlt : k < n
    · have HS := Lib.hid (effsS_snoc k S)
      have HNk := Lib.hid (HN.out k hlt)
      have HKk := Lib.hid (HK.out (k + 1))
      have HOk := Lib.hid (HO.out (k + 1))
      rw [HE.out] at HS
      have CR := Lib.hid (obRead_any wr g sc R.out)
      have HF := Lib.hid (right_snoc HRA.out (effS sc).1)
      have hord : (effS sc).1.order.size ≤ maxLen := by
        have := effS_order R.out.bytes
        unfold maxLen; omega
      clear HE HN HK HO HB HD HZ HNZ
      generalize (effS sc).1 = e at *
      generalize (effS sc).2 = t at *
      go_wp2_with fail
      refine CR.out.mono ?_
      rintro x w2 ⟨rfl, r2, b2⟩
      have hsz := b2.size
      have B3 := Lib.hid (B.out.trans (b2.trans (But.alloc g w2 (.cells (efC e) 138))))
      have R3 := Lib.hid (r2.below ((Below.refl w2.heap.size w2).alloc (Nat.le_refl _) (.cells (efC e) 138)))
      have O3 := Lib.hid ((HW.out.but b2 hg).alloc (.cells (efC e) 138))
      have Q3 := Lib.hid (Row.new w2 (efC e) 138)
      clear r2 b2 CR HW R B
      go_wp2_with fail
      have hg3 : g < w2.heap.size := by omega
      generalize w2.alloc (.cells (efC e) 138) = W3 at *
      generalize w2.heap.size = X at *
      refine (rd_bad_any W3 g t R3.out).mono ?_
      rintro x w' ⟨rfl, rfl⟩
      cases ht : t.isNone with
      | true =>
        have HE := Lib.hid (box_no (HNk.out (.inl (by rw [HS.out]; exact Option.isNone_iff_eq_none.1 ht))))
        go_wp2_with fail
        go_ret2
        exact ⟨_, by rw [HE.out.2]; rfl, by rw [HE.out.1]; exact OwnS.nil _ _, fun h => (by rw [HE.out.2] at h; cases h), B3.out⟩
      | false =>
        have ld := ld_row Q3.out
        obtain ⟨a3, c3, rfl, s3⟩ := O3.out.sl
        have CF := Lib.hid (follow_any a3 c3 acc e W3 s3 hord)
        rw [HF.out] at CF
        clear s3
        cases hf : rightE (acc ++ [e]) with
        | false =>
          have HE := Lib.hid (box_no (HNk.out (.inr (by rw [HS.out]; exact hf))))
          rw [hf] at CF
          go_wp2_with fail
          refine CF.out.mono ?_
          rintro x w4 ⟨rfl, b4⟩
          have B4 := Lib.hid (B3.out.trans (But.of (g := g) b4))
          go_wp2_with fail
          go_ret2
          exact ⟨_, by rw [HE.out.2]; rfl, by rw [HE.out.1]; exact OwnS.nil _ _, fun h => (by rw [HE.out.2] at h; cases h), B4.out⟩
        | true =>
          rw [hf] at CF
          have hk1 : k + 1 ≤ 1000000 := HKk.out (by rw [HS.out]; cases t with | none => cases ht | some _ => rfl)
          go_wp2_with fail
          refine CF.out.mono ?_
          rintro x w4 ⟨rfl, b4⟩
          have B4 := Lib.hid (B3.out.trans (But.of (g := g) b4))
          have R4 := Lib.hid (R3.out.below b4)
          have O4 := Lib.hid (O3.out.below b4)
          have Q4 := Lib.hid (Q3.out.below b4)
          have hg4 := R4.out.lt
          have hlen : acc.length + [e].length ≤ 10000000 := by simp; omega
          have hw4 := B4.out.size
          clear b4 ld CF B3 R3 O3 Q3
          have ld := ld_row Q4.out
          go_wp2_with (at_builtin; go_must (refine wpList_append_sl LE_ok rfl _ _ rfl w.heap.size _ acc [e] rfl (O4.out.alloc _) _ 1 rfl (SlP.one LE_ok _ e) hlen (Nat.le_trans hw4 (by simp)) ?_))
          rintro v5 w5 o5 g5
          obtain ⟨q, hq1, hq2⟩ := But.grown g5 (B := w.heap.size) O4.out.row
          have BA := Lib.hid (B4.out.trans (But.alloc g w4 (.cells (efC e) 138)))
          have B5 := Lib.hid (BA.out.new hq1 hq2)
          have R5 := Lib.hid ((R4.out.below ((Below.refl w4.heap.size w4).alloc (Nat.le_refl _) (.cells (efC e) 138))).other (by omega) hq2)
          have O5 := Lib.hid o5
          clear o5 g5 hq2 BA B4 R4 O4 Q4 ld
          go_wp2_with fail
          go_roundw
          case rel => exact ⟨k + 1, acc ++ [e], t, hlt, by go_num, O5, HS, Lib.hid (by rw [List.length_append, hal.out]; rfl), by rw [List.length_append, hal.out]; exact hk1, R5, Lib.hid hf, Lib.hid (fun h => by rw [h] at ht; cases ht), B5⟩
          case measure => simp [intOf]; omega
    · obtain rfl : k = n := by omega
      go_wp2_with fail
      refine (rd_bad_any wr g sc R.out).mono ?_
      rintro x w' ⟨rfl, rfl⟩
      cases hs : sc.isNone with
      | true =>
        have hsc : sc = none := Option.isNone_iff_eq_none.1 hs
        have h0 := HNZ.out hsc
        subst h0
        have hS : S = none := by
          have := HE.out
          rw [effsS] at this
          injection this with _ h2
          rw [h2, hsc]
        have hE := Lib.hid (box_no (HB.out hS))
        have hacc : acc = [] := List.eq_nil_of_length_eq_zero hal.out
        go_wp2_with fail
        go_ret2
        exact ⟨_, by rw [hE.out.2]; rfl, by rw [hE.out.1, ← hacc]; exact HW.out, fun h => (by rw [hE.out.2] at h; cases h), B.out⟩
      | false =>
        have hbox : boxS s = (acc, sc) := by rw [HD.out (by have := hal.out; omega)]; exact HE.out
        have hE := Lib.hid (box_yes (s := s) (by rw [hbox]; cases sc with | none => cases hs | some _ => rfl) (by rw [hbox]; exact HRA.out))
        go_wp2_with fail
        go_ret2
        exact ⟨_, by rw [hE.out.2]; rfl, by rw [hE.out.1, hbox]; exact HW.out, fun _ => (by rw [hbox]; exact R.out), B.out⟩
end

/- ObPut: What Put of package outbox answers, at every outbox. -/
section
set_option maxRecDepth 100000
open Go.RowKit Go.ChangeShapes Go.WideShapes Go.ChangeAt
attribute [local go_sem ↓] ldEf stEf alEf bxEf eqEf bdEf bsEf
attribute [local go_sem] al_ef bx_ef st_new bd_ef bs_ef bs_ef0

theorem wrap_tickE (n : Int) (h0 : 0 ≤ n) (h1 : n ≤ 1099511627776) : ∃ m : Nat, IntKind.u64.wrap n = (m : Int) ∧ n.toNat = m ∧ m < 18446744073709551616 :=
  ⟨n.toNat, by rw [IntKind.wrap_u64]; omega, rfl, by omega⟩
theorem effL_two (e : Ef) (m1 m2 m3 m4 m5 : Nat) (t1 : e.key.toNat = m1) (t2 : e.kind.toNat = m2) (t3 : e.tries.toNat = m3) (t4 : e.due.toNat = m4) (t5 : e.batch.toNat = m5) : effL e = numsL [m1, m2, m3, m4, m5] ++ textsL [e.order] := by
  subst t1 t2 t3 t4 t5
  simp [effL, numsL, textsL]
theorem effL_len {e : Ef} (h : oneB e = true) : (effL e).length ≤ 92 := by
  obtain ⟨r1, r2, r3, r4, r5, r6⟩ := oneB_of h
  have t1 := numL_ten (show e.key.toNat < 18446744073709551616 by omega)
  have t2 := numL_ten (show e.kind.toNat < 18446744073709551616 by omega)
  have t3 := numL_ten (show e.tries.toNat < 18446744073709551616 by omega)
  have t4 := numL_ten (show e.due.toNat < 18446744073709551616 by omega)
  have t5 := numL_ten (show e.batch.toNat < 18446744073709551616 by omega)
  have t6 := textL_32 r6
  unfold effL
  simp only [List.length_append]
  omega
theorem effsL_len : ∀ (l : List Ef) (_ : ∀ e ∈ l, oneB e = true), (effsL l).length ≤ 92 * l.length
  | [], _ => by simp [effsL]
  | e :: r, h => by
    have h1 := effL_len (h e (by simp))
    have h2 := effsL_len r (fun y hy => h y (by simp [hy]))
    rw [effsL_cons, List.length_append, List.length_cons]
    omega
theorem boxL_len {l : List Ef} (h : rightE l = true) (hm : l.length ≤ 100) : (boxL l).length ≤ 10000 := by
  have h1 := effsL_len l ((rightE_iff l).1 h).1
  have h2 := numL_ten (show l.length < 18446744073709551616 by omega)
  unfold boxL
  rw [List.length_append]
  omega

/-- An effect is put: its block, then the bytes so far, in a row of the call's own. -/
structure PutE (w : World) (X : Nat) (e : Ef) (acc : List Nat) (v : Value) (W : World) : Prop where
  own : OwnB W w.heap.size v acc
  row : Row W X 138 (efC e)
  low : Below w.heap.size w W
theorem PutE.below {w W W' : World} {X : Nat} {e : Ef} {acc : List Nat} {v : Value} (h : PutE w X e acc v W) (bl : Below W.heap.size W W') : PutE w X e acc v W' :=
  ⟨h.own.below bl, h.row.below bl, h.low.trans (bl.mono h.low.size)⟩
theorem PutE.put {w W W' : World} {X : Nat} {e : Ef} {acc acc' : List Nat} {v v' : Value} (h : PutE w X e acc v W) (own : OwnB W' w.heap.size v' acc') (g : W.grownBy W' v.ownBlock) : PutE w X e acc' v' W' :=
  ⟨own, h.row.own h.own (by decide) g, h.low.grown g h.low.size h.own.row⟩

set_option maxHeartbeats 8000000 in
theorem obPut_any (a oa : Option Addr) (cap oc : Nat) (l0 : List Nat) (l : List Ef) (w : World) (hB : BytesP w a cap l0) (hO : SlP LE w oa oc l) (hr : rightE l = true) (hl : l0.length ≤ 1000000) (hm : l.length ≤ 20000) :
    Calls Tryz.prog 67 #[.slice a l0.length cap, .slice oa l.length oc] w (OwnPost (l0 ++ boxL l) w) := by
  have HB := Lib.hid hB
  have HO := Lib.hid hO
  have hoc := hO.cap
  have HR := Lib.hid (fun e he => ((rightE_iff l).1 hr).1 e he)
  have hn2 : IntKind.u64.wrap (l.length : Int) = (l.length : Int) := by rw [IntKind.wrap_u64]; omega
  obtain ⟨y0, hy0⟩ : ∃ y, numsL [l.length] = y := ⟨_, rfl⟩
  have hy0l : y0.length ≤ 10 := by rw [← hy0]; exact numsL_len [l.length] (by intro n hn; simp at hn; omega)
  have C0 := Lib.hid (fun a2 c2 W h => numN a2 c2 [l.length] W h (by simp) y0 hy0)
  have Y0 := Lib.hid (show Bytes y0 by rw [← hy0]; exact numsL_bytes _)
  have HF := Lib.hid (show l0 ++ boxL l = (l0 ++ y0) ++ effsL l by rw [← hy0]; simp [boxL, numsL])
  have N0 := Lib.hid (fun W => nums_one l.length (by omega) W)
  clear hB hO hr hy0
  generalize l0 ++ boxL l = F at *
  go_enter Tryz.func67, Tryz.ntmps67
  go_wp2_with (at_builtin; go_must (refine wpList_append_bytes rfl _ _ rfl w.heap.size (.slice none 0 0) [] l0 rfl (own_nil _ _) a cap rfl HB.out (by simp; omega) (Nat.le_refl _) ?_))
  rintro v1 w1 o1 g1
  have b1 := (Below.refl w.heap.size w).grown g1 (Nat.le_refl _) (own_nil w w.heap.size).row
  have O1 := Lib.hid o1
  have B1 := Lib.hid b1
  have A1 := Lib.hid (b1.alloc b1.size (.cells #[.int .u64 (l.length : Int)] 74))
  have T1 := Lib.hid (N0.out w1)
  have Q1 := Lib.hid (own_alloc O1.out (.cells #[.int .u64 (l.length : Int)] 74))
  clear o1 g1 b1 HB N0
  go_wp2_with fail
  generalize w1.alloc (Obj.cells #[Value.int IntKind.u64 (l.length : Int)] 74) = W1 at *
  refine (C0.out _ _ _ T1.out).mono ?_
  rintro e x2 ⟨u2, rfl, q2, b2⟩
  obtain ⟨a2, p2, e2', h2⟩ := q2.bytes Y0.out
  subst e2'
  have O2 := Lib.hid (Q1.out.below b2)
  have B2 := Lib.hid (A1.out.trans (b2.mono A1.out.size))
  have H2 := Lib.hid h2
  have hb2 := B2.out.size
  have hs1 : l0.length + y0.length ≤ 10000000 := by omega
  clear q2 b2 h2 A1 T1 Q1 O1 B1 C0
  go_wp2_with (at_builtin; go_must (refine wpList_append_bytes rfl _ _ rfl w.heap.size v1 l0 y0 rfl O2.out a2 p2 rfl H2.out hs1 hb2 ?_))
  rintro v2 w2 o3 g3
  have B3 := Lib.hid (B2.out.grown g3 hb2 O2.out.row)
  have O3 := Lib.hid o3
  clear o3 g3 O2 B2 H2 hb2
  go_wp2_with fail
  go_loopw [5, 19] (fun s i wr => ∃ (k : Nat) (acc : List Nat), k ≤ l.length ∧ i = .int .i64 k ∧ Hid (OwnB wr w.heap.size s acc) ∧ Hid (acc ++ effsL (l.drop k) = F) ∧ acc.length ≤ 1000010 + 92 * k ∧ Hid (Below w.heap.size w wr)) (fun _ i _ => l.length - (intOf i).toNat)
  case atStart => exact ⟨0, l0 ++ y0, Nat.zero_le _, rfl, O3, Lib.hid (by rw [HF.out]; rfl), by rw [List.length_append]; omega, B3⟩
  case round =>
    clear O3 B3 HF
    obtain ⟨k, acc, hk, rfl, HW, HS, hac, hbw⟩ := hrel
    by_cases hlt : k < l.length
    · obtain ⟨b, o, rfl, hb, ld, hrest⟩ := (HO.out.below hbw.out).ef k hlt
      have h1 := HR.out _ (List.getElem_mem hlt)
      have hel := effL_len h1
      have HN := Lib.hid (HS.out.symm.trans (by rw [effsL_drop hlt, ← List.append_assoc]))
      have P0 : Hid (PutE w wr.heap.size l[k] acc u5 (wr.alloc (.cells (efC l[k]) 138))) := Lib.hid ⟨own_alloc HW.out _, Row.new _ _ _, hbw.out.alloc hbw.out.size _⟩
      clear hrest HS HW hbw
      generalize l[k] = y at *
      obtain ⟨r1, r2, r3, r4, r5, r6⟩ := oneB_of h1
      obtain ⟨m1, e1, t1, q1⟩ := wrap_64 y.key (by omega) (by omega)
      obtain ⟨m2, e2, t2, q2⟩ := wrap_64 y.kind (by omega) (by omega)
      obtain ⟨m3, e3, t3, q3⟩ := wrap_64 y.tries (by omega) (by omega)
      obtain ⟨m4, e4, t4, q4⟩ := wrap_tickE y.due (by omega) (by omega)
      obtain ⟨m5, e5, t5, q5⟩ := wrap_64 y.batch (by omega) (by omega)
      obtain ⟨y1, hy1⟩ : ∃ y, numsL [m1, m2, m3, m4, m5] = y := ⟨_, rfl⟩
      have C1 := Lib.hid (fun a2 c2 W h => numN a2 c2 [m1, m2, m3, m4, m5] W h (by simp) y1 hy1)
      have Y1 := Lib.hid (show Bytes y1 by rw [← hy1]; exact numsL_bytes _)
      have N5 := Lib.hid (fun W => nums_five m1 m2 m3 m4 m5 q1 q2 q3 q4 q5 W)
      obtain ⟨y2, hy2⟩ : ∃ z, textsL [y.order] = z := ⟨_, rfl⟩
      have C2 := Lib.hid (fun a2 c2 W h => textN a2 c2 [y.order] W h (by simp) (by intro x hx; simp at hx; subst hx; omega) y2 hy2)
      have Y2 := Lib.hid (show Bytes y2 by rw [← hy2]; exact textsL_bytes _)
      have he2 : effL y = y1 ++ y2 := by rw [← hy1, ← hy2]; exact effL_two y m1 m2 m3 m4 m5 t1 t2 t3 t4 t5
      rw [he2, List.length_append] at hel
      rw [he2] at HN
      obtain ⟨c0, c1, c2, c3, c4, c5⟩ := P0.out.row.c
      have ld2 := ld_row P0.out.row
      have A2 := Lib.hid (P0.out.below ((Below.refl _ _).alloc (Nat.le_refl _) (Obj.cells #[Value.int IntKind.u64 (m1 : Int), Value.int IntKind.u64 (m2 : Int), Value.int IntKind.u64 (m3 : Int), Value.int IntKind.u64 (m4 : Int), Value.int IntKind.u64 (m5 : Int)] 74)))
      have T2 : Hid (NumsP ((wr.alloc (.cells (efC y) 138)).alloc (Obj.cells #[Value.int IntKind.u64 (m1 : Int), Value.int IntKind.u64 (m2 : Int), Value.int IntKind.u64 (m3 : Int), Value.int IntKind.u64 (m4 : Int), Value.int IntKind.u64 (m5 : Int)] 74)) (some ⟨wr.heap.size + 1, 0, none⟩) 5 [m1, m2, m3, m4, m5]) := Lib.hid (by
        have := N5.out (wr.alloc (.cells (efC y) 138))
        rwa [show (wr.alloc (.cells (efC y) 138)).heap.size = wr.heap.size + 1 by simp] at this)
      clear h1 r1 r2 r3 r4 r5 r6 q1 q2 q3 q4 q5 t1 t2 t3 t4 t5 hy1 hy2 he2
      go_wp2_with fail
      generalize (wr.alloc (.cells (efC y) 138)).alloc (Obj.cells #[Value.int IntKind.u64 (m1 : Int), Value.int IntKind.u64 (m2 : Int), Value.int IntKind.u64 (m3 : Int), Value.int IntKind.u64 (m4 : Int), Value.int IntKind.u64 (m5 : Int)] 74) = W2 at *
      refine (C1.out _ _ _ T2.out).mono ?_
      rintro e x3 ⟨u3, rfl, q3, b3⟩
      obtain ⟨a3, p3, e3', h3⟩ := q3.bytes Y1.out
      subst e3'
      have D3 := Lib.hid (A2.out.below b3)
      have H3 := Lib.hid h3
      have hs3 : acc.length + y1.length ≤ 10000000 := by omega
      have hb3 := D3.out.low.size
      clear q3 b3 h3 A2 T2 P0 c0 c1 c2 c3 c4 c5 ld ld2 C1 N5
      go_wp2_with (at_builtin; go_must (refine wpList_append_bytes rfl _ _ rfl w.heap.size _ acc y1 rfl D3.out.own a3 p3 rfl H3.out hs3 hb3 ?_))
      rintro v4 w4 o4 g4
      have P4 := Lib.hid (D3.out.put o4 g4)
      obtain ⟨_, _, _, _, _, c5⟩ := P4.out.row.c
      have A4 := Lib.hid (P4.out.below ((Below.refl _ _).alloc (Nat.le_refl _) (Obj.cells #[Value.string y.order] 9)))
      have T4 := Lib.hid (strs_one y.order w4)
      clear o4 g4 D3 H3 hb3
      go_wp2_with fail
      generalize w4.alloc (Obj.cells #[Value.string y.order] 9) = W4 at *
      refine (C2.out _ _ _ T4.out).mono ?_
      rintro e x5 ⟨u5', rfl, q5, b5⟩
      obtain ⟨a5, p5, e5', h5⟩ := q5.bytes Y2.out
      subst e5'
      have D5 := Lib.hid (A4.out.below b5)
      have H5 := Lib.hid h5
      have hs5 : (acc ++ y1).length + y2.length ≤ 10000000 := by rw [List.length_append]; omega
      have hb5 := D5.out.low.size
      clear q5 b5 h5 A4 T4 P4 c5 C2
      go_wp2_with (at_builtin; go_must (refine wpList_append_bytes rfl _ _ rfl w.heap.size _ (acc ++ y1) y2 rfl D5.out.own a5 p5 rfl H5.out hs5 hb5 ?_))
      rintro v6 w6 o6 g6
      have P6 := Lib.hid (D5.out.put o6 g6)
      clear o6 g6 D5 H5 hb5
      go_wp2_with fail
      go_roundw
      case rel => exact ⟨k + 1, acc ++ (y1 ++ y2), hlt, by go_num, Lib.hid P6.out.own, Lib.hid (by rw [HN.out]), by simp only [List.length_append]; omega, Lib.hid P6.out.low⟩
      case measure => simp [intOf]; omega
    · have HE := Lib.hid (show F = acc by rw [← HS.out, List.drop_eq_nil_of_le (by omega)]; exact List.append_nil _)
      go_wp2_with fail
      go_ret
      exact ⟨_, rfl, by rw [HE.out]; exact HW.out, hbw.out⟩
end

end Go.Proofs.YtfmpibmhhfmajaaGreatDoor
