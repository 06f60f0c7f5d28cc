/- Bytes that are made; two plates of the call's own. -/
import Derived.Test.YtipikkniookanaaNew
import Derived.Test.YtipikkniookanaaOwn
import Derived.Test.YtipikkniookanaaPair
namespace Go.Proofs.Ytipikkniookanaa
set_option maxRecDepth 100000
open Go.RowKit

theorem mkB (ev : Operand → Value) (d : Option Tmp) (ty : TypeId) (pos : String) (af : Array Edge) (gd : Option (Nat × Bool)) (w : World) (x y : Operand) : (execOp ev ⟨d, .makeSlice 24 x y, ty, pos, af, gd⟩).run Try.prog w = MkR 24 (ev x) (ev y) w := rfl

/-- Noughts. -/
def zeroL (n : Nat) : List Nat := List.replicate n 0
theorem zeroL_len (n : Nat) : (zeroL n).length = n := by simp [zeroL]
theorem zeroL_bytes (n : Nat) : Bytes (zeroL n) := fun b hb => by rw [(List.mem_replicate.1 hb).2]; decide

theorem made_bytes (n : Nat) : madeCells #[.int .u8 0] (n * 1) = arr (zeroL n) := by
  apply Array.ext
  · rw [size_madeCells, arr_size, zeroL_len, Nat.mul_one]
  · intro i h1 h2
    have e1 : (arr (zeroL n))[i] = bv 0 := by
      simp only [arr, zeroL, List.map_replicate, List.getElem_toArray, List.getElem_replicate]
    rw [e1]
    simp [madeCells, Nat.mod_one]

theorem run_bytes (n : Nat) (hn : n ≤ 4096) (w : World) : (Instr.makeSlice 24 (.int .i64 (n : Int)) (.int .i64 (n : Int))).run Try.prog w = .ok (.slice (some ⟨w.heap.size, 0, none⟩) n n) (w.alloc (.cells (arr (zeroL n)) 5)) := by
  obtain ⟨i0, hi0, hz0, hzs, hzb⟩ := info_parts Try.info5
  have h := run_make (P := Try.prog) w 24 5 i0 _ Try.underlying24 hi0 hz0 .i64 .i64 n n (by omega) (by omega) (by rw [hzb]; omega) (by omega)
  rw [hzs, Int.toNat_natCast] at h
  simp only [Value.cells] at h
  rw [made_bytes] at h
  exact h

theorem mk_bytes (n : Nat) (hn : n ≤ 4096) (w : World) : MkR 24 (.int .i64 (n : Int)) (.int .i64 (n : Int)) w = .ok (.value (.slice (some ⟨w.heap.size, 0, none⟩) n n)) (w.alloc (.cells (arr (zeroL n)) 5)) := by
  simp only [MkR, Sem.run_bind, run_bytes n hn w, Sem.run_pure, Result.andThen_ok]

theorem zero_block (n : Nat) (hn : n ≤ 4096) (w : World) : BytesP (w.alloc (.cells (arr (zeroL n)) 5)) (some ⟨w.heap.size, 0, none⟩) n (zeroL n) := by
  have := bytes_block (zeroL n) (zeroL_bytes n) (by rw [zeroL_len]; omega) w 5 (0, 0)
  rw [zeroL_len] at this
  exact this

theorem pair_new {w0 w2 w3 w4 : World} {n m g1 g2 : Nat} {L : Nat → Prop} (b : Below w0.heap.size w0 w2) (hL : ∀ k, L k → k < w2.heap.size) (h3 : PlateP w3 (fun k => w2.heap.size ≤ k ∧ k < w3.heap.size) g1 (Pl.new n)) (b3 : Below w2.heap.size w2 w3)
    (h4 : PlateP w4 (fun k => w3.heap.size ≤ k ∧ k < w4.heap.size) g2 (Pl.new m)) (b4 : Below w3.heap.size w3 w4) : Pair w0 w4 (atPl g1 (Pl.new n)) (atPl g2 (Pl.new m)) L := by
  refine ⟨_, _, (stays_pl g1 _).same _ _ _ h3 b4.size (fun k hk => b4.block k hk.2), h4, fun k h h' => by omega, fun k hk => ?_, fun k hk => ?_, (b.trans (b3.mono b.size)).trans (b4.mono (Nat.le_trans b.size b3.size))⟩
  · have := b.size
    have := b3.size
    exact ⟨by omega, fun hl => by have := hL k hl; omega⟩
  · have := hL k hk
    have := b3.size
    have := b4.size
    omega

end Go.Proofs.Ytipikkniookanaa
