/- What came in as a slice of lines reads as a list of them; lines laid out by a call itself; the chapter's example. -/
import Derived.Test.YtijcgioggmphkaaRefMerge
import Derived.Test.YtijcgioggmphkaaRows
import Derived.Test.YtijcgioggmphkaaChecked
import Derived.ProofKit
import Derived.OpenShut
import Derived.ChangeSlices
import Derived.Deep.Slices
namespace Go.Proofs.Ytijcgioggmphkaa
open Go.ChangeShapes Go.WideShapes Go.ChangeAt Go.RowKit

theorem laidOut : laidOutB Try.prog = true := by kernel_rfl
theorem cells27 : Try.prog.cellsOf 27 = 3 := by kernel_rfl
theorem cells9 : Try.prog.cellsOf 9 = 1 := by kernel_rfl
theorem cells2 : Try.prog.cellsOf 2 = 1 := by kernel_rfl
theorem own : ownKnob Try.prog.godebug = none := by kernel_rfl

theorem pick_list {α : Type} {P : Nat → α → Prop} : ∀ n, (∀ i, i < n → ∃ x, P i x) → ∃ l : List α, l.length = n ∧ ∀ i x, l[i]? = some x → P i x
  | 0, _ => ⟨[], rfl, fun i x h => by simp at h⟩
  | n + 1, h => by
    obtain ⟨l, hl, hp⟩ := pick_list n (fun i hi => h i (by omega))
    obtain ⟨x, hx⟩ := h n (by omega)
    refine ⟨l ++ [x], by simp [hl], fun i y hy => ?_⟩
    by_cases hi : i < l.length
    · rw [List.getElem?_append_left hi] at hy
      exact hp i y hy
    · rw [List.getElem?_append_right (by omega)] at hy
      have h0 : i - l.length = 0 := by
        have := (List.getElem?_eq_some_iff.1 hy).1
        simp at this
        omega
      rw [h0] at hy
      simp at hy
      subst hy
      rw [show i = n by omega]
      exact hx

theorem line_of_trod {H : Type} {enc : TypeId × Value → H} {W : World} {base : Nat} {spare : Nat → Bool} {held : Bool} {n : Nat} {cs : List Value} {x : DataW H × List MemPlace}
    (h : DataW.trod enc Try.prog W base spare held n 27 cs = some x) : ∃ y : Ln, cs = [.string y.sku, .int .i64 y.qty, .int .i64 y.wt] ∧ y.sku.size ≤ maxLen := by
  obtain ⟨xs, m, _, _, hlen, hxl, hf⟩ := DataW.trod_struct Try.underlying27 h
  rw [cells27] at hlen
  match cs, hlen with
  | [c0, c1, c2], _ =>
    have hx3 : xs.length = 3 := hxl
    match xs, hx3 with
    | [x0, x1, x2], _ =>
      have h0 := hf 0 _ rfl
      have h1 := hf 1 _ rfl
      have h2 := hf 2 _ rfl
      simp only [cells9, cells2, List.drop_zero, List.drop_succ_cons, List.take_succ_cons, List.take_zero, List.getElem?_cons_zero, List.getElem?_cons_succ] at h0 h1 h2
      obtain ⟨s, e0, _, hs⟩ := DataW.trod_string Try.underlying9 h0
      obtain ⟨q, e1, _, _⟩ := DataW.trod_int Try.underlying2 h1
      obtain ⟨t, e2, _, _⟩ := DataW.trod_int Try.underlying2 h2
      injection e0 with e0
      injection e1 with e1
      injection e2 with e2
      exact ⟨⟨s, q, t⟩, by rw [e0, e1, e2], hs⟩

theorem lns_of_trod {H : Type} {enc : TypeId × Value → H} {W : World} {base : Nat} {v : Value} {d : DataW H} {p : List MemPlace}
    (hv : Value.okWide Try.prog W .any base 22 v) (h : DataW.Trod enc Try.prog W 0 (fun _ => true) true 22 v d p) : ∃ a cap l, v = .slice a l.length cap ∧ LnsP W a cap l ∧ l.length ≤ maxLen ∧ (a = none → cap = 0) := by
  obtain ⟨a0, len, cap, rfl⟩ := okWide_slice Try.underlying22 hv
  obtain ⟨fuel, hf⟩ := h
  rcases Go.Deep.open_slice Try.underlying22 hf with ⟨hcs, hx⟩ | ⟨a, len', cap', m, n, D, Pl, hcs, _, hl, hm, hmm, hx, hi⟩
  · simp [Value.cells] at hcs
    obtain ⟨rfl, rfl, rfl⟩ := hcs
    exact ⟨none, 0, [], rfl, LnsP.nil _ _ _, by simp, fun _ => rfl⟩
  · simp [Value.cells] at hcs
    obtain ⟨rfl, rfl, rfl⟩ := hcs
    simp only [if_true] at hmm
    subst hmm
    rw [cells27] at hi
    have hpick : ∀ i, i < len → ∃ y : Ln, W.cells? 0 (a.add (i * 3)) 3 = some [.string y.sku, .int .i64 y.qty, .int .i64 y.wt] ∧ y.sku.size ≤ maxLen := by
      intro i hil
      obtain ⟨cs', hc, ht⟩ := hi i (by omega)
      obtain ⟨y, rfl, hs⟩ := line_of_trod ht
      exact ⟨y, hc, hs⟩
    obtain ⟨l, hll, hlp⟩ := pick_list len hpick
    refine ⟨some a, m, l, by rw [hll], ⟨by omega, ?_, fun hne => ?_⟩, by omega, fun e => by cases e⟩
    · intro x hx
      obtain ⟨i, hi, rfl⟩ := List.mem_iff_getElem.1 hx
      exact (hlp i _ (List.getElem?_eq_getElem hi)).2
    · have hcell : ∀ j x, l[j]? = some x → W.cell? ((a.add (j * 3)).add 0) = some (.string x.sku) ∧ W.cell? ((a.add (j * 3)).add 1) = some (.int .i64 x.qty) ∧ W.cell? ((a.add (j * 3)).add 2) = some (.int .i64 x.wt) := by
        intro j x hj
        obtain ⟨_, _, hat⟩ := World.cells?_some (hlp j x hj).1
        exact ⟨hat 0 (by omega), hat 1 (by omega), hat 2 (by omega)⟩
      obtain ⟨x0, hx0⟩ : ∃ x0, l[0]? = some x0 := by
        cases l with
        | nil => exact absurd rfl hne
        | cons y r => exact ⟨y, rfl⟩
      obtain ⟨b, off, spot⟩ := a
      have hc0 := (hcell 0 x0 hx0).1
      have hspot : spot = none := by simpa [Addr.add] using World.cell?_spot hc0
      subst hspot
      refine ⟨b, off, rfl, ?_, fun j x hj => ?_⟩
      · have := World.block_lt_of_cell? W _ hc0
        simpa [Addr.add] using this
      · obtain ⟨q1, q2, q3⟩ := hcell j x hj
        simp only [Addr.add_lit, Nat.add_zero] at q1 q2 q3
        exact ⟨q1, q2, q3⟩

/-- Lines laid out by a call itself. -/
theorem lns_block (w : World) (ls : List Ln) (hsz : ∀ x ∈ ls, x.sku.size ≤ maxLen) (hl : ls.length ≤ maxLen) : LnsP (w.alloc (.cells (cellsL ls).toArray 27)) (some ⟨w.heap.size, 0, none⟩) ls.length ls := by
  have h : OwnL (w.alloc (.cells (cellsL ls).toArray 27)) 0 (.slice (some ⟨w.heap.size, 0, none⟩) ls.length ls.length) ls :=
    ⟨cellsL_len ls, .inr ⟨w.heap.size, ls.length, _, rfl, Nat.zero_le _, heap_alloc_new w _, Nat.le_refl _, hl, by simp [cellsL_len], by simp [cellsL_len]; rw [← cellsL_len, List.take_length]⟩⟩
  exact h.read hsz

def kA : ByteArray := ⟨#[97]⟩
def kB : ByteArray := ⟨#[98]⟩
theorem alive_merge : mergeV [⟨kB, 1, 0⟩, ⟨kA, 2, 0⟩, ⟨kB, 3, 0⟩] = [⟨kA, 2, 0⟩, ⟨kB, 4, 0⟩] := by kernel_rfl
theorem alive_pieces : piecesV [⟨kA, 2, 0⟩, ⟨kB, 4, 0⟩] = 6 := by kernel_rfl

def TrueB (w : World) (e : Ending) (w' : World) : Prop := e = .returned (.bool true) ∧ Below w.heap.size w w'

set_option maxHeartbeats 2000000 in
theorem alive_any (w : World) : Calls Try.prog 12 #[] w (TrueB w) := by
  have I1 := Lib.hid (lns_block w [⟨kB, 1, 0⟩, ⟨kA, 2, 0⟩, ⟨kB, 3, 0⟩] (by intro x hx; simp at hx; rcases hx with rfl | rfl | rfl <;> (show 1 ≤ maxLen; unfold maxLen; omega)) (by unfold maxLen; simp))
  have C1 := Lib.hid (merge_any _ _ _ _ I1.out (by simp))
  have HV := Lib.hid alive_merge
  have HE := Lib.hid (show mergeE [⟨kB, 1, 0⟩, ⟨kA, 2, 0⟩, ⟨kB, 3, 0⟩] = 0 by unfold mergeE; rw [HV.out]; rfl)
  have I2 := Lib.hid (fun w => lns_block w [⟨kA, 2, 0⟩, ⟨kB, 4, 0⟩] (by intro x hx; simp at hx; rcases hx with rfl | rfl <;> (show 1 ≤ maxLen; unfold maxLen; omega)) (by unfold maxLen; simp))
  have b0 : Below w.heap.size w (w.alloc (.cells (cellsL [⟨kB, 1, 0⟩, ⟨kA, 2, 0⟩, ⟨kB, 3, 0⟩]).toArray 27)) := (Below.refl _ _).alloc (Nat.le_refl _) _
  go_enter Try.func12, Try.ntmps12
  go_wp2_with fail
  refine C1.out.mono ?_
  rintro e w1 ⟨a1, c1, rfl, i1, b1⟩
  rw [HV.out] at i1
  rw [HV.out, HE.out]
  have J1 := Lib.hid i1
  have b2 := b0.trans (b1.mono b0.size)
  clear i1 b0 b1
  have J2 := Lib.hid (J1.out.below ((Below.refl w1.heap.size w1).alloc (Nat.le_refl _) (.cells (cellsL [⟨kA, 2, 0⟩, ⟨kB, 4, 0⟩]).toArray 27)))
  have C2 := Lib.hid (same_any a1 _ c1 _ _ _ J2.out (I2.out w1) (by simp))
  have b3 := b2.alloc b2.size (.cells (cellsL [⟨kA, 2, 0⟩, ⟨kB, 4, 0⟩]).toArray 27)
  go_wp2_with fail
  refine C2.out.mono ?_
  rintro e w2 ⟨rfl, b4⟩
  have J3 := Lib.hid (J2.out.below b4)
  have b5 := b3.trans (b4.mono b3.size)
  have C3 := Lib.hid (pieces_any _ _ _ _ J3.out (by unfold maxLen; simp))
  rw [alive_pieces] at C3
  go_wp2_with fail
  refine C3.out.mono ?_
  rintro e w3 ⟨rfl, b6⟩
  have b7 := b5.trans (b6.mono b5.size)
  go_wp2_with fail
  go_ret
  exact ⟨rfl, b7⟩

end Go.Proofs.Ytijcgioggmphkaa
