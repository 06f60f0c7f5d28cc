/- What New of package plate answers. -/
import Derived.Test.YtipikkniookanaaLeaf
import Derived.Laws.MakeOwn
namespace Go.Proofs.Ytipikkniookanaa
open Go.RowKit

attribute [local go_sem ↓] ld26 ld66 st26 st66 bx26 al26 al66 bd26 bd66 bs61 bs48 mk48 eq26 ap61 ap48 ap49 cp46 cp48
attribute [local go_sem] bx_agg al_cell al_wr bd_zero bd_one bd_two bd_nine

/-- So many cells of noughts. -/
def rowZ (n : Nat) : Array Value := (rowL (List.replicate n zeroC)).toArray

theorem arr_zero (i : Nat) (h : i < (arr zeroC).size) : (arr zeroC)[i] = bv 0 := by
  simp only [arr, zeroC, List.map_replicate, List.getElem_toArray, List.getElem_replicate]

theorem made_zero (n : Nat) : madeCells (arr zeroC) (n * 64) = rowZ n := by
  have hl := rowL_len (Cells.zero n)
  rw [List.length_replicate] at hl
  have hz : ∀ c ∈ List.replicate n zeroC, ∀ x ∈ c, x = 0 := by
    intro c hc x hx
    rw [(List.mem_replicate.1 hc).2] at hx
    simp [zeroC] at hx
    exact hx
  apply Array.ext
  · rw [size_madeCells, rowZ, List.size_toArray, hl]
  · intro i h1 h2
    rw [size_madeCells] at h1
    have e1 : (rowZ n)[i] = bv 0 := by
      simp only [rowZ, List.getElem_toArray, rowL, List.getElem_map]
      have hm := List.getElem_mem (l := (List.replicate n zeroC).flatten) (n := i) (by rw [flat_len (Cells.zero n), List.length_replicate]; exact h1)
      obtain ⟨c, hc, hx⟩ := List.mem_flatten.1 hm
      rw [hz c hc _ hx]
    have e2 : (madeCells (arr zeroC) (n * 64))[i]'(by rw [size_madeCells]; exact h1) = bv 0 := by
      simp only [madeCells, Array.getElem_map, Array.getElem_range, arr_size, zeroC_len]
      have hlt : i % 64 < (arr zeroC).size := by rw [arr_size, zeroC_len]; omega
      rw [getElem!_pos (arr zeroC) (i % 64) hlt]
      exact arr_zero _ hlt
    rw [e1, e2]

theorem mk_cells (n : Nat) (hn : n ≤ 4096) (w : World) : MkR 67 (.int .i64 (n : Int)) (.int .i64 (n : Int)) w = .ok (.value (.slice (some ⟨w.heap.size, 0, none⟩) n n)) (w.alloc (.cells (rowZ n) 90)) := by
  obtain ⟨i0, hi0, hz0, hzs, hzb⟩ := info_parts info26
  have h := run_make (P := Try.prog) w 67 90 i0 _ Try.underlying67 hi0 hz0 .i64 .i64 n n (by omega) (by omega) (by rw [hzb]; omega) (by omega)
  rw [hzs, Value.cells, made_zero, Int.toNat_natCast] at h
  simp only [MkR, Sem.run_bind, h, Sem.run_pure, Result.andThen_ok]

theorem row_zero (n : Nat) {w : World} {b : Nat} (h : w.heap[b]? = some (.cells (rowZ n) 90 (0, 0))) : RowAt w b 90 (rowL (List.replicate n zeroC)) := by
  have := RowAt.of h
  simpa [rowZ] using this

/-- A new plate. -/
def NewPost (n : Nat) (w : World) (e : Ending) (w' : World) : Prop := ∃ g, e = .returned (ptr g) ∧ PlateP w' (fun k => w.heap.size ≤ k ∧ k < w'.heap.size) g (Pl.new n) ∧ Below w.heap.size w w'

theorem new_mem (n : Nat) (hn : n ≤ 4096) (w : World) (b c : Nat) (hbc : (b = w.heap.size ∧ c = w.heap.size + 1) ∨ (c = w.heap.size ∧ b = w.heap.size + 1)) :
    NewPost n w (.returned (ptr (w.heap.size + 2))) (((w.alloc (.cells (rowZ n) 90)).alloc (.cells (rowZ n) 90)).alloc (.cells #[.slice (some ⟨b, 0, none⟩) n n, .slice (some ⟨c, 0, none⟩) n n, .slice none 0 0, .int .i64 (-1), .bool false] 70)).drew := by
  have b0 := (Below.refl w.heap.size w).alloc (Nat.le_refl _) (.cells (rowZ n) 90)
  have b1 := b0.alloc b0.size (.cells (rowZ n) 90)
  have b2 := b1.alloc b1.size (.cells #[.slice (some ⟨b, 0, none⟩) n n, .slice (some ⟨c, 0, none⟩) n n, .slice none 0 0, .int .i64 (-1), .bool false] 70)
  have e0 : ∀ k, k = w.heap.size ∨ k = w.heap.size + 1 → (((w.alloc (.cells (rowZ n) 90)).alloc (.cells (rowZ n) 90)).alloc (.cells #[.slice (some ⟨b, 0, none⟩) n n, .slice (some ⟨c, 0, none⟩) n n, .slice none 0 0, .int .i64 (-1), .bool false] 70)).drew.heap[k]? = some (.cells (rowZ n) 90 (0, 0)) := by
    intro k hk
    show (((w.alloc (.cells (rowZ n) 90)).alloc (.cells (rowZ n) 90)).alloc _).heap[k]? = _
    rw [Below.heap_alloc _ _ k (by simp; omega)]
    rcases hk with rfl | rfl
    · exact heap_alloc2_old w _ _
    · exact heap_alloc2_new w _ _
  have e2 : (((w.alloc (.cells (rowZ n) 90)).alloc (.cells (rowZ n) 90)).alloc (.cells #[.slice (some ⟨b, 0, none⟩) n n, .slice (some ⟨c, 0, none⟩) n n, .slice none 0 0, .int .i64 (-1), .bool false] 70)).drew.heap[w.heap.size + 2]? = some (.cells #[.slice (some ⟨b, 0, none⟩) n n, .slice (some ⟨c, 0, none⟩) n n, .slice none 0 0, .int .i64 (-1), .bool false] 70 (0, 0)) := by
    have := heap_alloc_new ((w.alloc (.cells (rowZ n) 90)).alloc (.cells (rowZ n) 90)) (.cells #[.slice (some ⟨b, 0, none⟩) n n, .slice (some ⟨c, 0, none⟩) n n, .slice none 0 0, .int .i64 (-1), .bool false] 70)
    rw [show ((w.alloc (.cells (rowZ n) 90)).alloc (.cells (rowZ n) 90)).heap.size = w.heap.size + 2 by simp] at this
    exact this
  have hsz : (((w.alloc (.cells (rowZ n) 90)).alloc (.cells (rowZ n) 90)).alloc (.cells #[.slice (some ⟨b, 0, none⟩) n n, .slice (some ⟨c, 0, none⟩) n n, .slice none 0 0, .int .i64 (-1), .bool false] 70)).drew.heap.size = w.heap.size + 3 := by
    show (((w.alloc _).alloc _).alloc _).heap.size = _
    simp
  refine ⟨_, rfl, ⟨b, c, .slice none 0 0, Pl.Good.new hn, fun k hk => hk.2, ?_, row_zero n (e0 b (by omega)), row_zero n (e0 c (by omega)), World.ownsRow_nil _ _ _ _, by omega, by omega, by omega, ⟨by omega, by omega⟩, ⟨by omega, by omega⟩, ⟨by omega, by omega⟩, fun k hk => by cases hk⟩, b2.drew⟩
  rw [e2]
  simp [Pl.new]

set_option maxHeartbeats 2000000 in
theorem new_any (n : Int) (w : World) : Calls Try.prog 11 #[.int .i64 n] w (NewPost (clampN n 4096) w) := by
  have C := Lib.hid (within_any n 4096 w)
  have hm := clampN_le n 4096
  generalize clampN n 4096 = m at *
  have M := mk_cells m hm
  have F := Lib.hid (new_mem m hm w)
  go_enter Try.func11, Try.ntmps11
  go_wp2_with fail
  refine C.out.mono ?_
  rintro e w' ⟨rfl, rfl⟩
  go_wp2_with fail
  go_region
  all_goals
    go_wp2_with fail
    go_ret
    first
      | exact F.out _ _ (.inl ⟨rfl, rfl⟩)
      | exact F.out _ _ (.inr ⟨rfl, rfl⟩)

end Go.Proofs.Ytipikkniookanaa
