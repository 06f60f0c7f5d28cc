/- What slices.Delete does to the last of a row of lists of texts. -/
import Derived.Test.YtbhknaggbenfnaaHvMem
import Derived.Deep.AppendSrc
import Derived.Deep.RegionLaw
namespace Go.Proofs.Ytbhknaggbenfnaa
set_option maxRecDepth 100000
open Go.RowKit Go.ChangeShapes Go.WideShapes Go.ChangeAt

theorem run_clear_list (w : World) (ty : TypeId) (b o c : Nat) (hc : (w.cell? ⟨b, o, none⟩).isSome = true) (hf : w.frozen? ⟨b, o, none⟩ = false) :
    (Builtin.clear_ #[34] ty #[.slice (some ⟨b, o, none⟩) 1 c]).run Try.prog w = .ok (.tuple #[]) (w.setCell ⟨b, o, none⟩ (.slice none 0 0)) := by
  have hst := run_storeCells_cells (P := Try.prog) b o [.slice none 0 0] 0 w (by intro j hj; simp at hj; subst hj; simpa using hc) (by intro j hj; simp at hj; subst hj; simpa using hf) (by intro v hv; simp only [List.mem_cons, List.not_mem_nil, or_false] at hv; subst hv; rfl)
  simp only [Nat.add_zero] at hst
  have hzc : (Builtin.zeroCells (Value.slice none 0 0).cells 1).toList = [.slice none 0 0] := by kernel_rfl
  have hv : ∀ w, (zeroValue 27).run Try.prog w = .ok (.slice none 0 0) w := fun w => by kernel_rfl
  simp [Builtin.clear_, run_underlying Try.underlying34, hv]
  rw [hzc, hst]
  rfl

theorem OwnU.cut {w : World} {g cap : Nat} {ys : List PartT} {u : PartT} (h : OwnU w (.slice (some ⟨g, 0, none⟩) (ys.length + 1) cap) (ys ++ [u])) (x : Value) :
    OwnU (w.drew.setCell ⟨g, ys.length, none⟩ x) (.slice (some ⟨g, 0, none⟩) ys.length cap) ys := by
  rcases h.2 with ⟨e, _⟩ | ⟨g', cap', cur, e, h1, h2, h3, h4, h5, h6⟩
  · cases e
  injection e with e1 e2 e3
  injection e1 with e1
  injection e1 with e1
  subst e1 e3
  rw [List.length_append, List.length_singleton] at h3 h6
  refine ⟨by simp, .inr ⟨g, cap, cur.setIfInBounds ys.length x, rfl, Nat.zero_le _, heap_setCell_same w.drew g ys.length cur _ x h2, by omega, h4, by simpa using h5, ?_⟩⟩
  rw [Nat.mul_one] at h6 ⊢
  rw [Array.toList_setIfInBounds, List.take_set_of_le (Nat.le_refl _)]
  have := congrArg (List.take ys.length) h6
  rw [List.take_take, Nat.min_eq_left (by omega), List.map_append, List.take_left' (by simp)] at this
  exact this

/-- What is left is answered; all but the row stays. -/
def DelPost (g cap : Nat) (ys : List PartT) (w : World) (e : Ending) (w' : World) : Prop := e = .returned (.slice (some ⟨g, 0, none⟩) ys.length cap) ∧ OwnU w' (.slice (some ⟨g, 0, none⟩) ys.length cap) ys ∧ w.grownBy w' (some g)

set_option maxHeartbeats 4000000 in
theorem delete_any (g cap : Nat) (ys : List PartT) (u : PartT) (w : World) (h : OwnU w (.slice (some ⟨g, 0, none⟩) (ys.length + 1) cap) (ys ++ [u])) (hm : ys.length ≤ 1000) :
    Calls Try.prog 25 #[.slice (some ⟨g, 0, none⟩) (ys.length + 1) cap, .int .i64 (ys.length : Int), .int .i64 ((ys.length : Int) + 1)] w (DelPost g cap ys w) := by
  obtain ⟨i0, hi0, hz0, hzs, hzb⟩ := info_parts infoU
  have hcut := h.cut (.slice none 0 0)
  obtain ⟨g', cap', e, hcap, _, hcell⟩ := h.at ys.length (by simp)
  obtain ⟨rfl, rfl⟩ : g = g' ∧ cap = cap' := by
    injection e with e1 e2 e3
    injection e1 with e1
    injection e1 with e1
    exact ⟨e1, e3⟩
  clear e
  rw [List.length_append, List.length_singleton] at hcap
  have hsome : (w.drew.cell? ⟨g, ys.length, none⟩).isSome = true := by
    show (w.cell? ⟨g, ys.length, none⟩).isSome = true
    rw [hcell]; rfl
  have hfz : w.drew.frozen? ⟨g, ys.length, none⟩ = false := by
    rcases h.2 with ⟨e, _⟩ | ⟨g2, cap2, cur, e, h1, h2, _⟩
    · cases e
    · injection e with e1
      injection e1 with e1
      injection e1 with e1
      subst e1
      exact frozen_of_row w.drew g ys.length cur _ h2
  have hgrow : w.grownBy (w.drew.setCell ⟨g, ys.length, none⟩ (.slice none 0 0)) (some g) :=
    ⟨rfl, rfl, rfl, by simp [World.setCell], fun k _ hk => heap_setCell_other w.drew ⟨g, ys.length, none⟩ k _ (fun e => hk (by rw [e]))⟩
  have hap : ∀ (A : Addr) ty sc, (Builtin.append_ #[34, 34] ty #[.slice (some ⟨g, 0, none⟩) ys.length cap, .slice (some A) 0 sc]).run Try.prog w.drew = .ok (.slice (some ⟨g, 0, none⟩) ys.length cap) w.drew := by
    intro A ty sc
    have hsrc : Src Try.prog i0.size 34 (.slice (some A) 0 sc) 0 [] w.drew := by
      rw [hzs]
      exact Src.ofSlice w.drew Try.underlying34 A 0 sc [] rfl (fun j u hj => by simp at hj) (fun u hu => by cases hu)
    have := run_append_room_src w.drew 34 34 ty 27 i0 Try.underlying34 hi0 g 0 ys.length cap _ 0 [] hsrc (by omega) (fun j hj => by simp at hj) (fun j hj => by simp at hj)
    exact this
  have hclr : ∀ ty sc, (Builtin.clear_ #[34] ty #[.slice (some ⟨g, ys.length, none⟩) 1 sc]).run Try.prog w.drew = .ok (.tuple #[]) (w.drew.setCell ⟨g, ys.length, none⟩ (.slice none 0 0)) := fun ty sc => run_clear_list w.drew ty g ys.length sc hsome hfz
  have FIN := Lib.hid (show DelPost g cap ys w (.returned (.slice (some ⟨g, 0, none⟩) ys.length cap)) (w.drew.setCell ⟨g, ys.length, none⟩ (.slice none 0 0)) from ⟨rfl, hcut, hgrow⟩)
  clear hcut hgrow hsome hfz hcell h hi0 hz0 hzs hzb
  generalize hW : w.drew.setCell ⟨g, ys.length, none⟩ (.slice none 0 0) = W at *
  clear hW
  generalize ys.length = m at *
  have hw1 : IntKind.i64.wrap ((m : Int) + 1) = (m : Int) + 1 := by rw [IntKind.wrap_i64]; omega
  have hb1 : (0 : Int) ≤ (m : Int) + 1 := by omega
  have htn : ((m : Int) + 1).toNat = m + 1 := by omega
  have hne1 : ¬ ((m : Int) = (m : Int) + 1) := by omega
  have hc1 : m ≤ cap := by omega
  go_enter Try.func25, Try.ntmps25
  by_cases hcp : cap = m + 1
  · subst hcp
    go_wp2_with fail
    go_region
    go_wp2
    go_ret
    exact FIN.out
  · have hcm : ¬ (cap = m) := by omega
    go_wp2_with fail
    go_region
    go_wp2
    go_ret
    exact FIN.out

end Go.Proofs.Ytbhknaggbenfnaa
