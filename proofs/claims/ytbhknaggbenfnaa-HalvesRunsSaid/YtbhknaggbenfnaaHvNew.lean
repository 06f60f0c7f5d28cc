/- What New of package halves answers; a plan of a call's own. -/
import Derived.Test.YtbhknaggbenfnaaHvTell2
namespace Go.Proofs.Ytbhknaggbenfnaa
set_option maxRecDepth 100000
open Go.RowKit

/-- A plan that came since w0; all that was there then is as it was. -/
def MineH (w0 w : World) (g : Nat) (p : Hv ByteArray) : Prop := ∃ R, PlanP w R g p ∧ (∀ k, R k → w0.heap.size ≤ k) ∧ Below w0.heap.size w0 w

/-- A plan of these names, or the error. -/
def NewPost (names : List ByteArray) (w : World) (e : Ending) (w' : World) : Prop :=
  twiceT names = true ∧ e = .returned (.tuple #[.pointer none, .int .i64 121]) ∧ Below w.heap.size w w' ∨
  twiceT names = false ∧ ∃ g, e = .returned (.tuple #[.pointer (some ⟨g, 0, none⟩), .int .i64 0]) ∧ MineH w w' g (newH names)

theorem mine_none (w w1 : World) (hb : Below w.heap.size w w1) : MineH w (w1.alloc (.cells #[.slice none 0 0, .slice none 0 0, .slice none 0 0, .int .i64 0] 47)) w1.heap.size (newH []) := by
  have hs : (w1.alloc (.cells #[.slice none 0 0, .slice none 0 0, .slice none 0 0, .int .i64 0] 47)).heap.size = w1.heap.size + 1 := by simp
  refine ⟨fun k => k = w1.heap.size, ⟨.slice none 0 0, .slice none 0 0, .slice none 0 0, [], ⟨fun k hk => by omega, heap_alloc_new w1 _, ?_, rfl, ?_, ?_, ?_, ?_, rfl, ?_, ?_, ?_⟩⟩, fun k hk => by have := hb.size; omega, hb.alloc hb.size _⟩
  · exact ⟨rfl, .inl ⟨rfl, rfl⟩⟩
  · intro u hu; cases hu
  · intro u hu; cases hu
  · exact OwnT.nil _ _
  · exact OwnT.nil _ _
  · intro k hk; cases hk
  · intro k hk; cases hk
  · intro k hk; cases hk

theorem mine_some (w w1 w3 : World) (hb : Below w.heap.size w w1) {names : List ByteArray} (h0 : names ≠ []) {a : Option Addr} {cap : Nat}
    (ho : OwnT w3 (w1.heap.size + 1) (.slice a names.length cap) names) (hb3 : Below (w1.heap.size + 1) (w1.alloc (.cells #[.slice none 0 0, .slice none 0 0, .slice none 0 0, .int .i64 0] 47)) w3) :
    MineH w ((w3.alloc (.cells #[.slice a names.length cap] 27)).setCell ⟨w1.heap.size, 0, none⟩ (.slice (some ⟨w3.heap.size, 0, none⟩) 1 1)) w1.heap.size (newH names) := by
  generalize hw5 : (w3.alloc (.cells #[.slice a names.length cap] 27)).setCell ⟨w1.heap.size, 0, none⟩ (.slice (some ⟨w3.heap.size, 0, none⟩) 1 1) = w5
  have s3 : w1.heap.size + 1 ≤ w3.heap.size := by have := hb3.size; simpa using this
  have s1 := hb.size
  have s5 : w5.heap.size = w3.heap.size + 1 := by rw [← hw5]; simp [World.setCell]
  have blk : ∀ k, k ≠ w1.heap.size → k < w3.heap.size → w5.heap[k]? = w3.heap[k]? := fun k hk hl => by
    rw [← hw5, heap_setCell_other _ _ _ _ (by simpa using hk)]
    exact Below.heap_alloc _ _ _ hl
  have hg : w3.heap[w1.heap.size]? = some (.cells #[.slice none 0 0, .slice none 0 0, .slice none 0 0, .int .i64 0] 47 (0, 0)) := by
    rw [hb3.block _ (by omega)]
    exact heap_alloc_new w1 _
  obtain ⟨_, hs⟩ := ho.reads
  obtain ⟨b, o, rfl, hlt, hc⟩ := hs.cell h0
  have hge : w1.heap.size + 1 ≤ b := by
    refine ho.ge b ?_
    rfl
  have hnn : names.isEmpty = false := by cases names with | nil => exact absurd rfl h0 | cons => rfl
  refine ⟨fun k => w.heap.size ≤ k ∧ k < w5.heap.size, ⟨.slice (some ⟨w3.heap.size, 0, none⟩) 1 1, .slice none 0 0, .slice none 0 0, [⟨some ⟨b, o, none⟩, cap, names⟩], ⟨fun k hk => hk.2, ?_, ?_, ?_, ?_, ?_, OwnT.nil _ _, OwnT.nil _ _, by omega, ?_, ?_, ?_⟩⟩, fun k hk => hk.1, ?_⟩
  · rw [← hw5, heap_setCell_same _ w1.heap.size 0 _ _ _ ((Below.heap_alloc w3 _ _ (by omega)).trans hg)]
    rfl
  · refine ⟨rfl, .inr ⟨w3.heap.size, 1, #[.slice (some ⟨b, o, none⟩) names.length cap], rfl, Nat.zero_le _, ?_, Nat.le_refl _, by decide, ?_, ?_⟩⟩
    · rw [← hw5, heap_setCell_other _ _ _ _ (by simp; omega)]
      exact heap_alloc_new w3 _
    · rfl
    · rfl
  · show [names] = (newH names).rest
    unfold newH
    rw [hnn]
    rfl
  · intro u hu
    rw [List.mem_singleton] at hu
    subst hu
    exact hs.same (by omega) (fun _ x hx => by cases hx; exact blk b (by omega) hlt)
  · intro u hu x hx
    rw [List.mem_singleton] at hu
    subst hu
    cases hx
    refine ⟨⟨?_, ?_⟩, ?_, ?_, ?_, ?_⟩
    · show w.heap.size ≤ b; omega
    · show b < w5.heap.size; omega
    · show b ≠ w1.heap.size; omega
    · intro e
      simp only [Value.ownBlock, Option.some.injEq] at e
      omega
    · intro e; cases e
    · intro e; cases e
  · intro k hk
    simp only [Value.ownBlock, Option.some.injEq] at hk
    omega
  · intro k hk; cases hk
  · intro k hk; cases hk
  · have b1 : Below w.heap.size w w3 := (hb.alloc s1 _).trans (hb3.mono (by omega))
    have b4 := b1.alloc (by omega) (.cells #[.slice (some ⟨b, o, none⟩) names.length cap] 27)
    exact ⟨by rw [← hw5]; exact b1.os, by rw [← hw5]; exact b1.tape, by rw [← hw5]; exact b1.output, by omega, fun k hk => (blk k (by omega) (by omega)).trans (b1.block k hk)⟩

set_option maxHeartbeats 4000000 in
theorem new_any (a : Option Addr) (cap : Nat) (l : List ByteArray) (w : World) (h : StrsP w a cap l) (hl : l.length ≤ 1000) (hs : ∀ s ∈ l, s.size ≤ maxLen) : Calls Try.prog 11 #[.slice a l.length cap] w (NewPost l w) := by
  have CT := Lib.hid (anyTwice_any a cap l w h (by omega) hs)
  have CO := Lib.hid (fun W (hb : Below w.heap.size w W) => own_any a cap l W (h.below hb) (by omega))
  have ML := Lib.hid (fun w1 (hb : Below w.heap.size w w1) => mine_none w w1 hb)
  have MS := Lib.hid (fun w1 w3 (hb : Below w.heap.size w w1) (h0 : l ≠ []) a' cap' => mine_some w w1 w3 hb h0 (a := a') (cap := cap'))
  have HE := Lib.hid (show l.length = 0 → l = [] from List.length_eq_zero_iff.1)
  clear h hs
  go_enter Try.func11, Try.ntmps11
  go_wp2_with fail
  refine CT.out.mono ?_
  rintro e w1 ⟨rfl, b1⟩
  cases ht : twiceT l with
  | true =>
    have HT := Lib.hid ht
    clear ht
    go_wp2_with fail
    go_ret2
    exact .inl ⟨HT.out, rfl, b1⟩
  | false =>
    have HT := Lib.hid ht
    have B2 := Lib.hid (b1.alloc b1.size (.cells #[.slice none 0 0, .slice none 0 0, .slice none 0 0, .int .i64 0] 47))
    have C2 := Lib.hid (CO.out _ B2.out)
    clear ht
    by_cases h0 : l.length = 0
    · have hl0 := HE.out h0
      have M := Lib.hid (ML.out w1 b1)
      have HT' := Lib.hid (show twiceT l = false from HT.out)
      have hlt : ¬ (0 : Int) < (l.length : Int) := by omega
      have E := Lib.hid hl0
      clear hl0 h0
      go_wp2_with fail
      go_ret2
      refine .inr ⟨HT.out, _, rfl, ?_⟩
      rw [E.out]
      exact M.out
    · have hlt : (0 : Int) < (l.length : Int) := by omega
      have H0 := Lib.hid (show l ≠ [] from fun e => h0 (by rw [e]; rfl))
      clear h0
      go_wp2_with fail
      refine C2.out.mono ?_
      rintro e w3 ⟨v, rfl, o3, b3⟩
      have b3' : Below (w1.heap.size + 1) (w1.alloc (.cells #[.slice none 0 0, .slice none 0 0, .slice none 0 0, .int .i64 0] 47)) w3 := by simpa using b3
      obtain ⟨a3, c3, rfl⟩ := o3.shape
      have hc := (b3'.block w1.heap.size (Nat.lt_succ_self _)).trans (heap_alloc_new w1 _)
      have hc4 := (Below.heap_alloc w3 (.cells #[.slice a3 l.length c3] 27) w1.heap.size (Nat.lt_of_lt_of_le (Nat.lt_succ_self _) (by simpa using b3'.size))).trans hc
      obtain ⟨d0, _, _, _, df⟩ := head4 hc4
      have M := Lib.hid (MS.out w1 w3 b1 H0.out a3 c3 (by simpa using o3) (by simpa using b3))
      clear o3 b3 b3' hc hc4
      go_wp2_with fail
      go_ret2
      exact .inr ⟨HT.out, _, rfl, M.out⟩

end Go.Proofs.Ytbhknaggbenfnaa
