/- What Share of package tally answers. -/
import Derived.Test.YtcfpcffcafjkjaaSum
import Derived.Laws.MakeOwn
namespace Go.Proofs.Ytcfpcffcafjkjaa
open Go.RowKit

/-- Block g is a row of just these numbers, all of the call's own. -/
def IsRow (w : World) (g : Nat) (l : List Int) : Prop := w.heap[g]? = some (.cells (l.map (Value.int .i64)).toArray 2 (0, 0))

theorem IsRow.cell {w : World} {g : Nat} {l : List Int} (h : IsRow w g l) {i : Nat} {x : Int} (hi : l[i]? = some x) : w.cell? ⟨g, i, none⟩ = some (.int .i64 x) := by
  unfold IsRow at h
  simp [World.cell?, h, hi]

theorem IsRow.frozen {w : World} {g : Nat} {l : List Int} (h : IsRow w g l) (i : Nat) : w.frozen? ⟨g, i, none⟩ = false := by
  unfold IsRow at h
  simp [World.frozen?, h]

theorem IsRow.set {w : World} {g : Nat} {l : List Int} (h : IsRow w g l) (i : Nat) (x : Int) : IsRow (w.setCell ⟨g, i, none⟩ (.int .i64 x)) g (l.set i x) := by
  unfold IsRow at h ⊢
  simp [World.setCell, Array.getElem?_modify, h, List.map_set]

/-- make([]int64, n). -/
theorem make_run (n : Nat) (hn : n ≤ 1000) (w : World) : (Instr.makeSlice 25 (.int .i64 (n : Int)) (.int .i64 (n : Int))).run Try.prog w = .ok (.slice (some ⟨w.heap.size, 0, none⟩) n n) (w.alloc (.cells (madeCells #[.int .i64 0] n) 2)) := by
  obtain ⟨i, hi⟩ : ∃ i, Try.prog.info? 2 = some i := Option.isSome_iff_exists.1 (by kernel_rfl)
  have hz : (Try.prog.info? 2).bind (·.zero) = some (.int .i64 0) := by kernel_rfl
  have hs : (Try.prog.info? 2).map (·.size) = some 1 := by kernel_rfl
  have hb : (Try.prog.info? 2).map (·.bytes) = some 8 := by kernel_rfl
  rw [hi] at hz hs hb
  simp only [Option.bind_some, Option.map_some, Option.some.injEq] at hz hs hb
  have h := run_make (P := Try.prog) w 25 2 i _ Try.underlying25 hi hz .i64 .i64 n n (by omega) (by omega) (by rw [hb]; omega) (by omega)
  simpa [hs, Value.cells] using h

theorem made_row (n : Nat) (w : World) : IsRow (w.alloc (.cells (madeCells #[.int .i64 0] n) 2)) w.heap.size (List.replicate n 0) := by
  unfold IsRow
  rw [heap_alloc_new]
  congr 2
  apply Array.ext
  · simp [madeCells]
  · intro i h1 h2
    simp [madeCells, Nat.mod_one]

/-- The first k of p shares, the others nothing. -/
def partL (n : Int) (p k : Nat) : List Int := (shareL n p).take k ++ List.replicate (p - k) 0

theorem partL_zero (n : Int) (p : Nat) : partL n p 0 = List.replicate p 0 := by simp [partL]
theorem partL_all (n : Int) (p : Nat) : partL n p p = shareL n p := by
  unfold partL
  rw [List.take_of_length_le (by rw [shareL_len]; omega)]
  simp
theorem partL_get {n : Int} {p k : Nat} (h : k < p) : (partL n p k)[k]? = some 0 := by
  have hl : ((shareL n p).take k).length = k := by rw [List.length_take, shareL_len]; omega
  unfold partL
  rw [List.getElem?_append_right (by omega), hl, Nat.sub_self, List.getElem?_replicate]
  simp; omega
theorem partL_set {n : Int} {p k : Nat} (h : k < p) : (partL n p k).set k (shareI n p k) = partL n p (k + 1) := by
  have hl : ((shareL n p).take k).length = k := by rw [List.length_take, shareL_len]; omega
  unfold partL
  rw [List.set_append_right _ _ (by omega), hl, Nat.sub_self]
  have hg := shareL_get (n := n) h
  rw [List.take_add_one, hg]
  rw [show p - k = (p - (k + 1)) + 1 by omega, List.replicate_succ, List.set_cons_zero]
  simp

set_option maxHeartbeats 2000000 in
theorem share_good (n : Int) (p : Nat) (w : World) (hn : okT n = true) (hp : 0 < p) (hp2 : p ≤ 1000) :
    Calls Try.prog 12 #[.int .i64 n, .int .i64 p] w fun e w' => ∃ g, e = .returned (.tuple #[.slice (some ⟨g, 0, none⟩) p p, .int .i64 0]) ∧ IsRow w' g (shareL n p) ∧ Below w.heap.size w w' := by
  have HN := Lib.hid hn
  obtain ⟨n0, n1⟩ := okT_true.1 hn
  clear hn
  have hp' : (0 : Int) < p := by omega
  have hp1 : decide ((p : Int) < 1) = false := by simp; omega
  have hp3 : decide (1000 < (p : Int)) = false := by simp; omega
  have hmk := make_run p hp2
  have hq0 : 0 ≤ n / p := Int.ediv_nonneg n0 (by omega)
  have hq1 : n / p ≤ 1000000000000 := Int.le_trans (Int.ediv_le_self _ n0) n1
  have hr0 := Int.emod_nonneg n (by omega : (p : Int) ≠ 0)
  have hr1 := Int.emod_lt_of_pos n hp'
  go_enter Try.func12, Try.ntmps12
  go_wp2_with fail
  refine (right_any _ _).mono ?_
  rintro e w' ⟨rfl, rfl⟩
  rw [HN.out]
  go_wp2_with fail
  go_region
  go_wp2_with fail
  clear hmk
  go_loopw [31] (fun i wr => ∃ k : Nat, k ≤ p ∧ i = .int .i64 k ∧ IsRow wr w.heap.size (partL n p k) ∧ Below w.heap.size w wr) (fun i _ => p - (intOf i).toNat)
  case atStart => exact ⟨0, Nat.zero_le _, rfl, by rw [partL_zero]; exact made_row p _, (Below.refl _ _).drew.alloc (Nat.le_refl _) _⟩
  case round =>
    obtain ⟨k, hk, rfl, hrow, hbw⟩ := hrel
    have HR := Lib.hid hrow
    clear hrow
    by_cases hlt : k < p
    · have hc := HR.out.cell (partL_get (n := n) hlt)
      have hf := HR.out.frozen k
      have hkk : (k : Int) < p := by omega
      cases ht : decide ((k : Int) < n % p) with
      | true =>
        have HS := Lib.hid (show shareI n p k = n / p + 1 by unfold shareI; rw [if_pos (by simpa using ht)])
        go_wp2_with fail
        go_roundw
        case rel =>
          refine ⟨k + 1, by omega, by go_num, ?_, ?_⟩
          · have h1 := (HR.out.set k (n / p)).set k (n / p + 1)
            have h2 := partL_set (n := n) hlt
            rw [HS.out] at h2
            rw [List.set_set, h2] at h1
            exact h1
          · exact (hbw.setCell (Nat.le_refl _) _).setCell (Nat.le_refl _) _
        case measure => simp [intOf]; omega
      | false =>
        have HS := Lib.hid (show shareI n p k = n / p by unfold shareI; rw [if_neg (by simpa using ht)]; omega)
        go_wp2_with fail
        go_roundw
        case rel =>
          refine ⟨k + 1, by omega, by go_num, ?_, ?_⟩
          · have h1 := HR.out.set k (n / p)
            have h2 := partL_set (n := n) hlt
            rw [HS.out] at h2
            rw [h2] at h1
            exact h1
          · exact hbw.setCell (Nat.le_refl _) _
        case measure => simp [intOf]; omega
    · have hkp : k = p := by omega
      subst hkp
      rw [partL_all] at HR
      go_wp2_with fail
      go_ret2
      exact ⟨_, rfl, HR.out, hbw⟩

def NoneB (w : World) (e : Ending) (w' : World) : Prop := e = .returned (.tuple #[.slice none 0 0, .int .i64 21]) ∧ w = w'

set_option maxHeartbeats 2000000 in
theorem share_bad (n p : Int) (w : World) (h : okT n = false ∨ p < 1 ∨ 1000 < p) : Calls Try.prog 12 #[.int .i64 n, .int .i64 p] w (NoneB w) := by
  cases hn : okT n with
  | false =>
    have HN := Lib.hid hn
    clear hn h
    go_enter Try.func12, Try.ntmps12
    go_wp2_with fail
    refine (right_any _ _).mono ?_
    rintro e w' ⟨rfl, rfl⟩
    rw [HN.out]
    go_wp2_with fail
    go_ret2
    exact ⟨rfl, rfl⟩
  | true =>
    have HN := Lib.hid hn
    rw [hn] at h
    simp only [Bool.true_eq_false, false_or] at h
    clear hn
    cases h1 : decide (p < 1) with
    | true =>
      clear h
      go_enter Try.func12, Try.ntmps12
      go_wp2_with fail
      refine (right_any _ _).mono ?_
      rintro e w' ⟨rfl, rfl⟩
      rw [HN.out]
      go_wp2_with fail
      go_ret2
      exact ⟨rfl, rfl⟩
    | false =>
      have h2 : decide (1000 < p) = true := by simp at h1 ⊢; omega
      clear h
      go_enter Try.func12, Try.ntmps12
      go_wp2_with fail
      refine (right_any _ _).mono ?_
      rintro e w' ⟨rfl, rfl⟩
      rw [HN.out]
      go_wp2_with fail
      go_ret2
      exact ⟨rfl, rfl⟩

def TrueB (w : World) (e : Ending) (w' : World) : Prop := e = .returned (.bool true) ∧ Below w.heap.size w w'

set_option maxHeartbeats 2000000 in
/-- The chapter's example. -/
theorem alive_any (w : World) : Calls Try.prog 14 #[] w (TrueB w) := by
  have C1 := Lib.hid (fun W => share_good 7 3 W (by decide) (by decide) (by decide))
  have C2 := Lib.hid (fun W : World => sum_any _ 3 [1, 2, 3] _ (ints_three 1 2 3 W 2) (by simp))
  have hv : sumV [1, 2, 3] = 6 ∧ sumE [1, 2, 3] = 0 := by decide
  rw [hv.1, hv.2] at C2
  have hs : shareL 7 3 = [3, 2, 2] := by decide
  rw [hs] at C1
  clear hv hs
  go_enter Try.func14, Try.ntmps14
  go_wp2_with fail
  refine (C1.out _).mono ?_
  rintro e w1 ⟨g, rfl, hr, b1⟩
  have c0 := hr.cell (i := 0) rfl
  have c1 := hr.cell (i := 1) rfl
  have c2 := hr.cell (i := 2) rfl
  clear hr
  go_wp2_with fail
  refine (C2.out _).mono ?_
  rintro e w2 ⟨rfl, rfl⟩
  have hg := World.block_lt_of_cell? w1 _ c0
  go_wp2_with fail
  go_ret
  exact ⟨rfl, b1.alloc b1.size _⟩
end Go.Proofs.Ytcfpcffcafjkjaa
