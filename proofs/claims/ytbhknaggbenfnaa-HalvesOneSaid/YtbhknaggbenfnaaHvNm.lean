/- Names put together out of letters; three rows of texts that share nothing. -/
import Derived.Test.YtbhknaggbenfnaaHvMine
import Derived.Lib.AppendZeros
namespace Go.Proofs.Ytbhknaggbenfnaa
set_option maxRecDepth 100000
open Go.RowKit

/-- The text of one letter. -/
def rb (r : Nat) : ByteArray := ⟨#[UInt8.ofNat r]⟩
theorem rb_size (r : Nat) : (rb r).size = 1 := rfl
theorem encode_rb (r : Nat) (h : r < 128) : Utf8.encode (r : Int) = rb r := by
  have hv : Utf8.valid (r : Int) = true := by
    simp [Utf8.valid]
    omega
  unfold Utf8.encode
  simp only [hv, if_true, Int.toNat_natCast]
  rw [if_pos (by omega)]
  rfl
theorem run_rune (r : Nat) (h : r < 128) (W : World) : (convert 21 9 (.int .i32 (r : Int))).run Try.prog W = .ok (.string (rb r)) W := by
  rw [run_convert_int_string W 21 9 .i32 _ (by rw [Try.underlying21]; rfl) Try.underlying9, encode_rb r h]

theorem ofNat_inj {a b : Nat} (ha : a < 256) (hb : b < 256) (h : UInt8.ofNat a = UInt8.ofNat b) : a = b := by
  have := congrArg UInt8.toNat h
  rw [UInt8.toNat_ofNat', UInt8.toNat_ofNat', Nat.mod_eq_of_lt (by omega), Nat.mod_eq_of_lt (by omega)] at this
  exact this

/-- Two letters. -/
def nm2 (i : Nat) : ByteArray := rb (97 + i % 26) ++ rb (97 + i / 26)
/-- An n and two letters. -/
def nm3 (i : Nat) : ByteArray := ((⟨#[110]⟩ : ByteArray) ++ rb (97 + i / 26)) ++ rb (97 + i % 26)
theorem nm2_data (i : Nat) : (nm2 i).data.toList = [UInt8.ofNat (97 + i % 26), UInt8.ofNat (97 + i / 26)] := by
  unfold nm2
  rw [ByteArray.data_append]
  rfl
theorem nm3_data (i : Nat) : (nm3 i).data.toList = [110, UInt8.ofNat (97 + i / 26), UInt8.ofNat (97 + i % 26)] := by
  unfold nm3
  rw [ByteArray.data_append, ByteArray.data_append]
  rfl
theorem nm2_size (i : Nat) : (nm2 i).size = 2 := by
  show (nm2 i).data.size = 2
  rw [← Array.length_toList, nm2_data]; rfl
theorem nm3_size (i : Nat) : (nm3 i).size = 3 := by
  show (nm3 i).data.size = 3
  rw [← Array.length_toList, nm3_data]; rfl
theorem nm2_inj {i j : Nat} (hi : i < 500) (hj : j < 500) (h : nm2 i = nm2 j) : i = j := by
  have := congrArg (fun x : ByteArray => x.data.toList) h
  simp only [nm2_data, List.cons.injEq, and_true] at this
  have h1 := ofNat_inj (by omega) (by omega) this.1
  have h2 := ofNat_inj (by omega) (by omega) this.2
  omega
theorem nm3_inj {i j : Nat} (hi : i < 500) (hj : j < 500) (h : nm3 i = nm3 j) : i = j := by
  have := congrArg (fun x : ByteArray => x.data.toList) h
  simp only [nm3_data, List.cons.injEq, and_true, true_and] at this
  have h1 := ofNat_inj (by omega) (by omega) this.1
  have h2 := ofNat_inj (by omega) (by omega) this.2
  omega
theorem map_nodup {f : Nat → ByteArray} (hf : ∀ i j, i < 500 → j < 500 → f i = f j → i = j) (n : Nat) (hn : n ≤ 500) : ((List.range n).map f).Nodup := by
  unfold List.Nodup
  rw [List.pairwise_map]
  refine List.Pairwise.imp_of_mem ?_ List.nodup_range
  intro a b ha hb hab e
  rw [List.mem_range] at ha hb
  exact hab (hf a b (by omega) (by omega) e)
theorem map_range_succ {α : Type} (f : Nat → α) (k : Nat) : (List.range (k + 1)).map f = (List.range k).map f ++ [f k] := by
  rw [List.range_succ, List.map_append]; rfl

/-- Three rows of texts that came since w; none shares its block with another. -/
structure Tri (w wr : World) (v5 v6 v7 : Value) (a b c : List ByteArray) : Prop where
  o5 : OwnT wr 0 v5 a
  o6 : OwnT wr 0 v6 b
  o7 : OwnT wr 0 v7 c
  d56 : ∀ k, v5.ownBlock = some k → v6.ownBlock ≠ some k
  d57 : ∀ k, v5.ownBlock = some k → v7.ownBlock ≠ some k
  d67 : ∀ k, v6.ownBlock = some k → v7.ownBlock ≠ some k
  lo5 : ∀ k, v5.ownBlock = some k → w.heap.size ≤ k
  lo6 : ∀ k, v6.ownBlock = some k → w.heap.size ≤ k
  lo7 : ∀ k, v7.ownBlock = some k → w.heap.size ≤ k
  low : Below w.heap.size w wr
section
variable {w wr : World} {v5 v6 v7 : Value} {a b c : List ByteArray}
theorem Tri.rot (h : Tri w wr v5 v6 v7 a b c) : Tri w wr v6 v7 v5 b c a :=
  ⟨h.o6, h.o7, h.o5, h.d67, fun k hk e => h.d56 k e hk, fun k hk e => h.d57 k e hk, h.lo6, h.lo7, h.lo5, h.low⟩
theorem Tri.push (h : Tri w wr v5 v6 v7 a b c) (x : ByteArray) (hl : a.length ≤ 1000) (ty : TypeId) :
    ∃ a' c' w', (Builtin.append_ #[27, 27] ty #[v5, .slice (some ⟨wr.heap.size, 0, none⟩) 1 1]).run Try.prog (wr.alloc (.cells #[.string x] 9)) = .ok (.slice a' (a ++ [x]).length c') w' ∧
      Tri w w' (.slice a' (a ++ [x]).length c') v6 v7 (a ++ [x]) b c := by
  have hb := (Below.refl wr.heap.size wr).alloc (Nat.le_refl _) (.cells #[.string x] 9)
  obtain ⟨a', c', w', hr, ho, hg, hv⟩ := run_append_at (wr.alloc (.cells #[.string x] 9)) v5 a [x] (h.o5.below hb) (some ⟨wr.heap.size, 0, none⟩) 1 (strs_block1 wr x) (by simp) (by simp; omega) ty
  have hs : (wr.alloc (.cells #[.string x] 9)).heap.size = wr.heap.size + 1 := by simp
  have keep : ∀ {v : Value} {l : List ByteArray}, OwnT wr 0 v l → (∀ k, v5.ownBlock = some k → v.ownBlock ≠ some k) → OwnT w' 0 v l := fun ho' hd =>
    ownsRow_same ho' (fun k hk => (hg.block k (by have := ho'.lt k hk; omega) (fun e => hd k e.symm hk)).trans (hb.block k (ho'.lt k hk)))
  have fresh : ∀ {v : Value} {l : List ByteArray}, OwnT wr 0 v l → (∀ k, v5.ownBlock = some k → v.ownBlock ≠ some k) → ∀ k, (Value.slice a' (a ++ [x]).length c').ownBlock = some k → v.ownBlock ≠ some k := fun ho' hd k hk e => by
    rcases hv with hv | hv
    · exact hd k (hv ▸ hk) e
    · rw [hv, hs] at hk
      have := ho'.lt k e
      cases hk
      omega
  refine ⟨a', c', w', hr, ⟨ho, keep h.o6 h.d56, keep h.o7 h.d57, fresh h.o6 h.d56, fresh h.o7 h.d57, h.d67, fun k hk => ?_, h.lo6, h.lo7, ?_⟩⟩
  · rcases hv with hv | hv
    · exact h.lo5 k (hv ▸ hk)
    · rw [hv, hs] at hk
      have := h.low.size
      cases hk
      omega
  · exact (h.low.alloc h.low.size _).grown hg (by rw [hs]; have := h.low.size; omega) (fun k hk => h.lo5 k hk)
end
theorem Tri.new (w w1 : World) (hb : Below w.heap.size w w1) : Tri w (((w1.alloc (.cells #[] 9)).alloc (.cells #[] 9)).alloc (.cells #[] 9)) (.slice (some ⟨w1.heap.size, 0, none⟩) 0 0) (.slice (some ⟨w1.heap.size + 1, 0, none⟩) 0 0) (.slice (some ⟨w1.heap.size + 1 + 1, 0, none⟩) 0 0) [] [] [] := by
  have h1 := OwnT.fresh w1 0 (Nat.zero_le _)
  have h2 := OwnT.fresh (w1.alloc (.cells #[] 9)) 0 (Nat.zero_le _)
  have h3 := OwnT.fresh ((w1.alloc (.cells #[] 9)).alloc (.cells #[] 9)) 0 (Nat.zero_le _)
  have q1 := (Below.refl w1.heap.size w1).alloc (Nat.le_refl _) (.cells #[] 9)
  have q2 := (Below.refl (w1.alloc (.cells #[] 9)).heap.size (w1.alloc (.cells #[] 9))).alloc (Nat.le_refl _) (.cells #[] 9)
  have q3 := (Below.refl ((w1.alloc (.cells #[] 9)).alloc (.cells #[] 9)).heap.size ((w1.alloc (.cells #[] 9)).alloc (.cells #[] 9))).alloc (Nat.le_refl _) (.cells #[] 9)
  have s1 : (w1.alloc (.cells #[] 9)).heap.size = w1.heap.size + 1 := by simp
  have s2 : ((w1.alloc (.cells #[] 9)).alloc (.cells #[] 9)).heap.size = w1.heap.size + 1 + 1 := by simp
  rw [s1] at h2
  rw [s2] at h3
  have hs := hb.size
  refine ⟨(h1.below q2).below q3, h2.below q3, h3, ?_, ?_, ?_, ?_, ?_, ?_, ?_⟩
  all_goals first
    | (intro k hk e; simp only [Value.ownBlock, Option.some.injEq] at hk e; omega)
    | (intro k hk; simp only [Value.ownBlock, Option.some.injEq] at hk; omega)
    | skip
  have b1 := hb.alloc hs (.cells #[] 9)
  have b2 := b1.alloc b1.size (.cells #[] 9)
  exact b2.alloc b2.size _

end Go.Proofs.Ytbhknaggbenfnaa
