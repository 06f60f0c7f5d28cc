/- What Next, Good, Bad and Tries of a plan answer. -/
import Derived.Test.YtbhknaggbenfnaaHvMem
import Derived.Test.YtbhknaggbenfnaaHvLeaf
namespace Go.Proofs.Ytbhknaggbenfnaa
set_option maxRecDepth 100000
open Go.RowKit

theorem rest_last {p : Hv ByteArray} {ys : List PartT} {u : PartT} (h : (ys ++ [u]).reverse.map PartT.l = p.rest) : p.rest = u.l :: ys.reverse.map PartT.l := by
  rw [← h]; simp
theorem last_or (us : List PartT) : us = [] ∨ ∃ ys u, us = ys ++ [u] := by
  rcases List.eq_nil_or_concat us with h | ⟨ys, u, h⟩
  · exact .inl h
  · exact .inr ⟨ys, u, by rw [h]; simp⟩

section
variable {w w' : World} {R : Nat → Prop} {g n : Nat} {p : Hv ByteArray} {vu vg vb : Value} {us : List PartT}

set_option maxHeartbeats 2000000 in
theorem next_any (h : PnM w R g p vu vg vb us) (ok : OkH n p) (hn : n ≤ 1000) : Calls Try.prog 13 #[.pointer (some ⟨g, 0, none⟩)] w (OwnTs (nextH p) w) := by
  obtain ⟨c0, _, _, _, _⟩ := head4 h.head
  rcases last_or us with rfl | ⟨ys, u, rfl⟩
  · obtain ⟨a, cap, rfl, _, _⟩ := h.un.shape
    have E := Lib.hid (show nextH p = [] by unfold nextH; rw [← h.rest]; rfl)
    clear h ok
    simp only [List.length_nil] at c0
    go_enter Try.func13, Try.ntmps13
    go_wp2_with fail
    go_ret
    exact ⟨_, rfl, by rw [E.out]; exact OwnT.nil _ _, Below.refl _ _⟩
  · have hr := rest_last h.rest
    have E := Lib.hid (show nextH p = u.l by unfold nextH; rw [hr]; rfl)
    obtain ⟨b, cap, rfl, hc, hb, c1⟩ := h.un.at ys.length (by simp)
    rw [List.getElem_append_right (by simp)] at c1
    simp only [Nat.sub_self, List.getElem_cons_zero, PartT.val] at c1
    rw [List.length_append, List.length_singleton] at c0 hc
    have hl : u.l.length ≤ 100000 := by
      have h1 := ok.size
      have h2 := mem_flat (l := u.l) (r := p.rest) (by rw [hr]; simp)
      omega
    have hm : ys.length ≤ 1000 := by
      have h1 := ok.lists
      rw [hr] at h1
      simp at h1
      omega
    have CO := Lib.hid (own_any u.a u.cap u.l w.drew ((h.each u (by simp)).below ((Below.refl _ _).drew)) hl)
    have d0 : w.drew.cell? ⟨g, 0, none⟩ = _ := c0
    have d1 : w.drew.cell? ⟨b, ys.length, none⟩ = _ := c1
    have B := Lib.hid ((Below.refl w.heap.size w).drew)
    clear h ok hl hr c1
    generalize ys.length = m at *
    have hw : IntKind.i64.wrap (m : Int) = (m : Int) := by rw [IntKind.wrap_i64]; omega
    have hlt : (m : Int) < (m : Int) + 1 := by omega
    have hi : ((m : Int) + 1 == 0) = false := by rw [beq_eq_false_iff_ne]; omega
    generalize u.l = l at *
    go_enter Try.func13, Try.ntmps13
    go_wp2_with fail
    go_region_law ((try go_simp); go_at_call 24; refine CO.out.mono ?_; rintro e w2 ⟨v2, rfl, o2, b2⟩)
    all_goals
      go_wp2_with fail
      go_ret
      exact ⟨_, rfl, by rw [E.out]; exact o2, B.out.trans b2⟩

set_option maxHeartbeats 1000000 in
theorem good_any (h : PnM w R g p vu vg vb us) (ok : OkH n p) (hn : n ≤ 1000) : Calls Try.prog 20 #[.pointer (some ⟨g, 0, none⟩)] w (OwnTs p.good w) := by
  obtain ⟨_, c1, _, _, _⟩ := head4 h.head
  obtain ⟨a, cap, rfl, hs⟩ := h.good.strs
  have CO := Lib.hid (own_any a cap p.good w hs (by have := ok.size; omega))
  clear h ok hs
  generalize p.good = l at *
  go_enter Try.func20, Try.ntmps20
  go_wp2_with fail
  refine CO.out.mono ?_
  rintro e w2 ⟨v2, rfl, o2, b2⟩
  go_wp2_with fail
  go_ret
  exact ⟨_, rfl, o2, b2⟩

set_option maxHeartbeats 1000000 in
theorem bad_any (h : PnM w R g p vu vg vb us) (ok : OkH n p) (hn : n ≤ 1000) : Calls Try.prog 21 #[.pointer (some ⟨g, 0, none⟩)] w (OwnTs p.bad w) := by
  obtain ⟨_, _, c1, _, _⟩ := head4 h.head
  obtain ⟨a, cap, rfl, hs⟩ := h.bad.strs
  have CO := Lib.hid (own_any a cap p.bad w hs (by have := ok.size; omega))
  clear h ok hs
  generalize p.bad = l at *
  go_enter Try.func21, Try.ntmps21
  go_wp2_with fail
  refine CO.out.mono ?_
  rintro e w2 ⟨v2, rfl, o2, b2⟩
  go_wp2_with fail
  go_ret
  exact ⟨_, rfl, o2, b2⟩

/-- A number is answered; all that was there stays. -/
def NumB (m : Int) (w : World) (e : Ending) (w' : World) : Prop := e = .returned (.int .i64 m) ∧ Below w.heap.size w w'

theorem tries_any (h : PnM w R g p vu vg vb us) : Calls Try.prog 19 #[.pointer (some ⟨g, 0, none⟩)] w (NumB (p.tries : Int) w) := by
  obtain ⟨_, _, _, c1, _⟩ := head4 h.head
  clear h
  generalize p.tries = t at *
  go_enter Try.func19, Try.ntmps19
  go_wp2_with fail
  go_ret
  exact ⟨rfl, Below.refl _ _⟩
end

end Go.Proofs.Ytbhknaggbenfnaa
