/- What Get of package plate answers. -/
import Derived.Test.YtipikkniookanaaLeaf
namespace Go.Proofs.Ytipikkniookanaa
open Go.RowKit

attribute [local go_sem ↓] ld26 ld66 st26 st66 bx26 al26 al66 bd26 bd66 bs61 bs48 mk48 eq26 ap61 ap48 ap49 cp46 cp48
attribute [local go_sem] bx_agg al_cell al_wr bd_zero bd_one bd_two bd_nine

set_option maxRecDepth 100000 in
theorem loadVar_of {t : TypeId} {a : Addr} {w : World} {v : Value} (h : LdR t (.pointer (some a)) w = .ok (.value v) w) : (loadVar t a).run Try.prog w = .ok v w := by
  simp only [LdR, Instr.loadAt, Instr.sureAddr, Sem.run_bind, Sem.run_pure, Result.andThen_ok] at h
  cases hr : (loadVar t a).run Try.prog w with
  | ok v' w' =>
    rw [hr] at h
    simp only [Result.andThen_ok] at h
    injection h with h1 h2
    injection h1 with h1
    rw [h1, h2]
  | halt x w' =>
    rw [hr] at h
    simp [Result.andThen] at h

theorem results_cell_one {fn : Func} {p u : Tmp} {ty : TypeId} (h : fn.results = #[.cell p ty, .tmp u]) (tmps : Array Value) (w : World) (g : Nat) (v : Value)
    (hp : tmps.getD p undef = .pointer (some ⟨g, 0, none⟩)) (hl : LdR ty (.pointer (some ⟨g, 0, none⟩)) w = .ok (.value v) w) :
    (results fn tmps).run Try.prog w = .ok (.tuple #[v, tmps.getD u undef]) w := by
  have hp' : tmps[p]?.getD undef = .pointer (some ⟨g, 0, none⟩) := by simpa using hp
  simp [results, h, hp', asAddr, loadVar_of hl]

/-- A new block with a cell. -/
theorem cell_block (w : World) (c : List Nat) : RowAt (w.alloc (.cells (arr c) 90)) w.heap.size 90 (c.map bv) := by
  have := RowAt.of (heap_alloc_new w (.cells (arr c) 90))
  rwa [arr_toList] at this

theorem ld_block {w : World} {b : Nat} {c : List Nat} (hc : c.length = 64) (h : RowAt w b 90 (c.map bv)) : LdR 90 (.pointer (some ⟨b, 0, none⟩)) w = .ok (.value (.agg (arr c))) w :=
  ld_cell h hc (by rw [List.drop_zero, List.take_of_length_le (by rw [List.length_map, hc]; omega)])

theorem st_block {w : World} {b : Nat} {c d : List Nat} (hd : d.length = 64) (hc : c.length = 64) (h : RowAt w b 90 (d.map bv)) : ∃ w', StR 90 (.pointer (some ⟨b, 0, none⟩)) (.agg (arr c)) w = .ok .skip w' ∧ RowAt w' b 90 (c.map bv) ∧ Upd b w w' := by
  obtain ⟨w', h1, h2, h3⟩ := st_cell h hc (o := 0) (by rw [List.length_map, hd]; omega)
  refine ⟨w', h1, ?_, h3⟩
  rwa [putL_all (by rw [List.length_map, List.length_map, hc, hd])] at h2

theorem Upd.below {b : Nat} {w w' : World} (h : Upd b w w') {B : Nat} (hB : B ≤ b) : Below B w w' := ⟨h.os, h.tape, h.output, by rw [h.size]; exact Nat.le_refl _, fun k hk => h.block k (by omega)⟩

/-- A cell and an error's number; all that was there stays. -/
def GetPost (c : List Nat) (e : Int) (w : World) (x : Ending) (w' : World) : Prop := x = .returned (.tuple #[.agg (arr c), .int .i64 e]) ∧ Below w.heap.size w w'

set_option maxHeartbeats 2000000 in
theorem get_any {w : World} {R : Nat → Prop} {g bs bl : Nat} {lv : Value} {P : Pl} (h : PlM w R g bs bl lv P) (i : Int) : Calls Try.prog 57 #[ptr g, .int .i64 i] w (GetPost (P.get i) (P.getE i) w) := by
  have C := Lib.hid (has_any (h.alloc (.cells (arr zeroC) 90)) i)
  have K0 := Lib.hid (cell_block w zeroC)
  have b1 := Lib.hid ((Below.refl w.heap.size w).alloc (Nat.le_refl _) (.cells (arr zeroC) 90))
  have h1 := h.alloc (.cells (arr zeroC) 90)
  obtain ⟨c0, c1, c2, c3, c4, hf⟩ := head_cells h1.head
  cases hh : P.has i with
  | false =>
    rw [hh] at C
    obtain ⟨w2, s2, k2, u2⟩ := st_block zeroC_len zeroC_len K0.out
    have E := Lib.hid (show P.get i = zeroC ∧ P.getE i = 71 by simp [Pl.get, Pl.getE, hh])
    have K2 := Lib.hid k2
    have U2 := Lib.hid u2
    clear h h1 k2 u2 hh
    go_enter Try.func57, Try.ntmps57
    go_wp2_with fail
    refine C.out.mono ?_
    rintro e w' ⟨rfl, rfl⟩
    go_wp2_with fail
    refine bodyPost_ret (results_cell_one rfl _ _ w.heap.size _ rfl (ld_block zeroC_len K2.out)) rfl ?_
    rw [E.out.1, E.out.2]
    exact ⟨rfl, b1.out.trans (U2.out.below (Nat.le_refl _))⟩
  | true =>
    rw [hh] at C
    have hr := hh
    simp only [Pl.has, Bool.and_eq_true, decide_eq_true_eq] at hr
    obtain ⟨k, rfl⟩ := Int.eq_ofNat_of_zero_le hr.1
    have hk : k < P.last.length := by rw [h.good.size]; omega
    have hc := getD_cell h.good.cl hk
    have hL := ld_cell h1.rl hc.len (rowL_cell h.good.cl hk)
    have hlt : k < P.sure.length := by omega
    obtain ⟨w2, s2, k2, u2⟩ := st_block zeroC_len hc.len K0.out
    have E := Lib.hid (show P.get k = P.last.getD k [] ∧ P.getE k = 0 by simp [Pl.get, Pl.getE, hh])
    have K2 := Lib.hid k2
    have U2 := Lib.hid u2
    have HC := Lib.hid hc.len
    clear h h1 k2 u2 hh hk hr hc
    generalize P.last.getD k [] = c at *
    generalize P.sure.length = n at *
    go_enter Try.func57, Try.ntmps57
    go_wp2_with fail
    refine C.out.mono ?_
    rintro e w' ⟨rfl, rfl⟩
    go_wp2_with fail
    refine bodyPost_ret (results_cell_one rfl _ _ w.heap.size _ rfl (ld_block HC.out K2.out)) rfl ?_
    rw [E.out.1, E.out.2]
    exact ⟨rfl, b1.out.trans (U2.out.below (Nat.le_refl _))⟩

end Go.Proofs.Ytipikkniookanaa
