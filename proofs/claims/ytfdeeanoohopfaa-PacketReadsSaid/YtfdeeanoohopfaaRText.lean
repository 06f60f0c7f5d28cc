/- What Text of package packet's Reader answers. -/
import Derived.Test.YtfdeeanoohopfaaReader
namespace Go.Proofs.Ytfdeeanoohopfaa
open Go.ChangeShapes Go.WideShapes Go.ChangeAt Go.RowKit

theorem spoil_drewN (w : World) (g : Nat) (l : List Nat) (pos : Nat) (bad : Bool) (h : RdP w g l pos bad) (n : Nat) : Calls Try.prog 29 #[.pointer (some ⟨g, 0, none⟩)] (w.drewN n) (Spoilt g w (.tuple #[])) := by
  obtain ⟨a, cap, h1, _, _⟩ := h.mem
  exact (spoil_any (w.drewN n) g _ _ _ h1).mono fun _ _ ⟨he, hr, hb⟩ => ⟨he, hr, hb.os, hb.tape, hb.output, hb.size, hb.block⟩

set_option maxHeartbeats 4000000 in
/-- Below 0 nothing is read. -/
theorem rdText_neg (w : World) (g : Nat) (l : List Nat) (pos : Nat) (bad : Bool) (most : Int) (h : RdP w g l pos bad) (hm : most < 0) : Calls Try.prog 22 #[.pointer (some ⟨g, 0, none⟩), .int .i64 most] w (Spoilt g w (.string ⟨#[]⟩)) := by
  have S1 := Lib.hid (spoil_drewN w g l pos bad h 0)
  have S1 : Hid (Calls Try.prog 29 #[.pointer (some ⟨g, 0, none⟩)] w (Spoilt g w (.tuple #[]))) := S1
  have N2 := Lib.hid (fun W (h : RdP W g [] 0 true) => rdNumber_bad W g [] 0 (IntKind.u64.wrap most) h)
  have S2 := Lib.hid (fun W (h : RdP W g [] 0 true) n => spoil_drewN W g [] 0 true h n)
  have tm : decide (most < 0) = true := by simp; omega
  clear h hm
  go_enter Try.func22, Try.ntmps22
  go_wp2_with fail
  refine S1.out.mono ?_
  rintro e w1 ⟨rfl, r1, b1⟩
  have R1 := Lib.hid r1
  have B1 := Lib.hid b1
  clear r1 b1
  go_wp2_with fail
  refine (N2.out _ R1.out).mono ?_
  rintro e w' ⟨rfl, rfl⟩
  obtain ⟨a1, cap1, h1, _, _⟩ := R1.out.mem
  obtain ⟨c0, c1, c2, f1⟩ := cells3 h1
  clear h1
  go_wp2_with fail
  go_quiet (fail)
  go_wp2_with fail
  refine (S2.out _ R1.out _).mono ?_
  rintro e w2 ⟨rfl, r2, b2⟩
  go_wp2_with fail
  go_ret
  exact ⟨rfl, r2, B1.out.trans b2⟩

set_option maxHeartbeats 4000000 in
/-- Of a BAD one nothing is read. -/
theorem rdText_bad (w : World) (g : Nat) (most : Int) (h : RdP w g [] 0 true) (hm : 0 ≤ most) : Calls Try.prog 22 #[.pointer (some ⟨g, 0, none⟩), .int .i64 most] w (Spoilt g w (.string ⟨#[]⟩)) := by
  have N2 := Lib.hid (rdNumber_bad w g [] 0 (IntKind.u64.wrap most) h)
  have S2 := Lib.hid (fun W (h : RdP W g [] 0 true) n => spoil_drewN W g [] 0 true h n)
  have tm : decide (most < 0) = false := by simp; omega
  have R1 := Lib.hid h
  have B1 := Lib.hid (Below.refl g w)
  clear h hm
  go_enter Try.func22, Try.ntmps22
  go_wp2_with fail
  refine N2.out.mono ?_
  rintro e w' ⟨rfl, rfl⟩
  obtain ⟨a1, cap1, h1, _, _⟩ := R1.out.mem
  obtain ⟨c0, c1, c2, f1⟩ := cells3 h1
  clear h1
  go_wp2_with fail
  go_quiet (fail)
  go_wp2_with fail
  refine (S2.out _ R1.out _).mono ?_
  rintro e w2 ⟨rfl, r2, b2⟩
  go_wp2_with fail
  go_ret
  exact ⟨rfl, r2, B1.out.trans b2⟩

set_option maxHeartbeats 4000000 in
/-- No number ahead of it. -/
theorem rdText_err (w : World) (g : Nat) (l : List Nat) (pos most : Nat) (h : RdP w g l pos false) (hm : most ≤ 9223372036854775807) (he : (numAt most 0 0 (l.drop pos)).2.2 ≠ 0) :
    Calls Try.prog 22 #[.pointer (some ⟨g, 0, none⟩), .int .i64 (most : Int)] w (Spoilt g w (.string ⟨#[]⟩)) := by
  have N2 := Lib.hid (rdNumber_err w g l pos most h (by omega) he)
  have S2 := Lib.hid (fun W (h : RdP W g [] 0 true) n => spoil_drewN W g [] 0 true h n)
  have tm : decide ((most : Int) < 0) = false := by simp
  have hwm : IntKind.u64.wrap (most : Int) = (most : Int) := by rw [IntKind.wrap_u64]; omega
  clear h he
  go_enter Try.func22, Try.ntmps22
  go_wp2_with fail
  refine N2.out.mono ?_
  rintro e w1 ⟨rfl, r1, b1⟩
  have R1 := Lib.hid r1
  have B1 := Lib.hid b1
  clear r1 b1
  obtain ⟨a1, cap1, h1, _, _⟩ := R1.out.mem
  obtain ⟨c0, c1, c2, f1⟩ := cells3 h1
  clear h1
  go_wp2_with fail
  go_quiet (fail)
  go_wp2_with fail
  refine (S2.out _ R1.out _).mono ?_
  rintro e w2 ⟨rfl, r2, b2⟩
  go_wp2_with fail
  go_ret
  exact ⟨rfl, r2, B1.out.trans b2⟩

set_option maxHeartbeats 4000000 in
/-- Fewer bytes than it says. -/
theorem rdText_few (w : World) (g : Nat) (l : List Nat) (pos most v s : Nat) (h : RdP w g l pos false) (hm : most ≤ 9223372036854775807) (he : numAt most 0 0 (l.drop pos) = (v, s, 0)) (hs : pos + s ≤ l.length) (hf : l.length - (pos + s) < v) :
    Calls Try.prog 22 #[.pointer (some ⟨g, 0, none⟩), .int .i64 (most : Int)] w (Spoilt g w (.string ⟨#[]⟩)) := by
  have N2 := Lib.hid (rdNumber_ok w g l pos most v s h (by omega) he hs)
  have S2 := Lib.hid (fun W q (h : RdP W g l q false) n => spoil_drewN W g l q false h n)
  have tm : decide ((most : Int) < 0) = false := by simp
  have hwm : IntKind.u64.wrap (most : Int) = (most : Int) := by rw [IntKind.wrap_u64]; omega
  have hll := h.len
  clear h he
  generalize pos + s = q at *
  obtain ⟨r, hr, hrl, HR⟩ : ∃ r : Nat, (l.length : Int) - (q : Int) = (r : Int) ∧ r ≤ 1000000 ∧ Hid (r = l.length - q) := ⟨l.length - q, by omega, by omega, rfl⟩
  rw [← HR.out] at hf
  have hwr : IntKind.u64.wrap (r : Int) = (r : Int) := by rw [IntKind.wrap_u64]; omega
  go_enter Try.func22, Try.ntmps22
  go_wp2_with fail
  refine N2.out.mono ?_
  rintro e w1 ⟨rfl, r1, b1⟩
  have R1 := Lib.hid r1
  have B1 := Lib.hid b1
  clear r1 b1
  obtain ⟨a1, cap1, h1, _, _⟩ := R1.out.mem
  obtain ⟨c0, c1, c2, f1⟩ := cells3 h1
  clear h1
  go_wp2_with fail
  go_quiet (fail)
  go_wp2_with fail
  refine (S2.out _ _ R1.out _).mono ?_
  rintro e w2 ⟨rfl, r2, b2⟩
  go_wp2_with fail
  go_ret
  exact ⟨rfl, r2, B1.out.trans b2⟩

set_option maxHeartbeats 4000000 in
/-- A text. -/
theorem rdText_ok (w : World) (g : Nat) (l : List Nat) (pos most v s : Nat) (h : RdP w g l pos false) (hm : most ≤ 9223372036854775807) (he : numAt most 0 0 (l.drop pos) = (v, s, 0)) (hs : pos + s ≤ l.length) (hf : ¬ l.length - (pos + s) < v) :
    Calls Try.prog 22 #[.pointer (some ⟨g, 0, none⟩), .int .i64 (most : Int)] w (Gone g l (pos + s + v) w (.string (strB ((l.drop (pos + s)).take v)))) := by
  have N2 := Lib.hid (rdNumber_ok w g l pos most v s h (by omega) he hs)
  have tm : decide ((most : Int) < 0) = false := by simp
  have hwm : IntKind.u64.wrap (most : Int) = (most : Int) := by rw [IntKind.wrap_u64]; omega
  have hll := h.len
  clear h he
  generalize pos + s = q at *
  obtain ⟨r, hr, hrl, HR⟩ : ∃ r : Nat, (l.length : Int) - (q : Int) = (r : Int) ∧ r ≤ 1000000 ∧ Hid (r = l.length - q) := ⟨l.length - q, by omega, by omega, rfl⟩
  have hqv : q + v ≤ l.length := by omega
  rw [← HR.out] at hf
  have hwr : IntKind.u64.wrap (r : Int) = (r : Int) := by rw [IntKind.wrap_u64]; omega
  have hwv : IntKind.i64.wrap (v : Int) = (v : Int) := by rw [IntKind.wrap_i64]; omega
  obtain ⟨z, hz, HZ⟩ : ∃ z : Nat, (q : Int) + (v : Int) = (z : Int) ∧ Hid (q + v = z) := ⟨q + v, by omega, rfl⟩
  have hzl : z ≤ l.length := by have := HZ.out; omega
  have hqz : q ≤ z := by have := HZ.out; omega
  have HV := Lib.hid (show v = z - q by have := HZ.out; omega)
  go_enter Try.func22, Try.ntmps22
  go_wp2_with fail
  refine N2.out.mono ?_
  rintro e w1 ⟨rfl, r1, b1⟩
  have R1 := Lib.hid r1
  have B1 := Lib.hid b1
  clear r1 b1
  obtain ⟨a1, cap1, h1, h2, h3⟩ := R1.out.mem
  obtain ⟨c0, c1, c2, f1⟩ := cells3 h1
  clear h1 h2 h3
  go_wp2_with fail
  go_quiet (fail)
  go_wp2_with fail
  have r4 := (R1.out.drewN nq).on z hzl
  have b4 := (below_drewN B1.out nq).setCell (p := ⟨g, 1, none⟩) (Nat.le_refl _) (.int .i64 (z : Int))
  clear c0 c1 c2 f1
  generalize (w1.drewN nq).setCell ⟨g, 1, none⟩ (.int .i64 (z : Int)) = W at *
  obtain ⟨a2, cap2, h1, h2, h3⟩ := r4.mem
  obtain ⟨c0, c1, c2, f1⟩ := cells3 h1
  obtain ⟨a9, c9, s9, k9⟩ := slice_part (a := a2) h2.cap q z (q : Int) (z : Int) rfl rfl hqz hzl
  have hcv := fun n => run_text ((k9 W h2).below (drewN_below W n))
  have H2 := h2.cap
  have R4 := Lib.hid r4
  have B4 := Lib.hid b4
  rw [HV.out] at *
  clear h1 h2 h3 k9 r4 b4
  generalize (l.drop q).take (z - q) = body at *
  go_quiet (fail)
  go_wp2_with fail
  go_ret
  refine ⟨rfl, ?_, below_drewN B4.out _⟩
  exact R4.out.drewN _

end Go.Proofs.Ytfdeeanoohopfaa
