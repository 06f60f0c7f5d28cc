/- What Tell of a plan does. -/
import Derived.Test.YtbhknaggbenfnaaHvCalls
import Derived.Test.YtbhknaggbenfnaaHvDel
namespace Go.Proofs.Ytbhknaggbenfnaa
set_option maxRecDepth 100000
open Go.RowKit

theorem run_append_at (w : World) (v : Value) (xs ys : List ByteArray) (hown : OwnT w 0 v xs) (A : Option Addr) (cA : Nat) (hy : StrsP w A cA ys) (h0 : ys ≠ []) (hlen : xs.length + ys.length ≤ 1000000) (ty : TypeId) :
    ∃ a' c' w', (Builtin.append_ #[27, 27] ty #[v, .slice A ys.length cA]).run Try.prog w = .ok (.slice a' (xs ++ ys).length c') w' ∧ OwnT w' 0 (.slice a' (xs ++ ys).length c') (xs ++ ys) ∧ w.grownBy w' v.ownBlock ∧
      ((Value.slice a' (xs ++ ys).length c').ownBlock = v.ownBlock ∨ (Value.slice a' (xs ++ ys).length c').ownBlock = some w.heap.size) := by
  obtain ⟨i0, hi0, hz0, hzs, hzb⟩ := info_parts Try.infoT
  obtain ⟨b, o, rfl, _, _⟩ := hy.cell h0
  obtain ⟨v', w', hr, h1, h2, _, h3⟩ := run_append_own_at w 0 27 ty 9 i0 _ 1 16 Try.underlying27 hi0 hz0 hzs hzb rfl (by decide) v xs.length (xs.map .string) hown ⟨b, o, none⟩ ys.length cA (ys.map .string) (by simp) (strs_cells hy _ rfl) (fun v hv => by obtain ⟨x, _, rfl⟩ := List.mem_map.1 hv; rfl) (by unfold maxLen; omega) (by omega) (Nat.zero_le _)
  have ho : OwnT w' 0 v' (xs ++ ys) := by
    unfold OwnT
    rw [List.map_append, List.length_append]
    exact h1
  obtain ⟨a', c', rfl⟩ := ho.shape
  exact ⟨a', c', w', hr, ho, h2, h3⟩
theorem run_append_lists (w : World) (v : Value) (us : List PartT) (hown : OwnU w v us) (x y : PartT) (hlen : us.length ≤ 100000) (ty : TypeId) :
    ∃ a' c' w', (Builtin.append_ #[34, 34] ty #[v, .slice (some ⟨w.heap.size, 0, none⟩) 2 2]).run Try.prog (w.alloc (.cells #[x.val, y.val] 27)) = .ok (.slice a' (us ++ [x, y]).length c') w' ∧ OwnU w' (.slice a' (us ++ [x, y]).length c') (us ++ [x, y]) ∧
      (w.alloc (.cells #[x.val, y.val] 27)).grownBy w' v.ownBlock ∧ ((Value.slice a' (us ++ [x, y]).length c').ownBlock = v.ownBlock ∨ (Value.slice a' (us ++ [x, y]).length c').ownBlock = some (w.heap.size + 1)) := by
  obtain ⟨i0, hi0, hz0, hzs, hzb⟩ := info_parts infoU
  have hown' : OwnU (w.alloc (.cells #[x.val, y.val] 27)) v us := ownsRow_same hown (fun k hk => Below.heap_alloc _ _ _ (hown.lt k hk))
  obtain ⟨v', w', hr, h1, h2, _, h3⟩ := run_append_own_at (w.alloc (.cells #[x.val, y.val] 27)) 0 34 ty 27 i0 _ 1 24 Try.underlying34 hi0 hz0 hzs hzb rfl (by decide) v us.length (us.map PartT.val) hown' ⟨w.heap.size, 0, none⟩ 2 2 [x.val, y.val] (by simp)
    (fun j u hj => by
      rw [Addr.add_lit, Nat.zero_add, cell_of_row _ _ _ _ _ (0, 0) (heap_alloc_new w _)]
      simpa using hj) (fun v hv => by simp only [List.mem_cons, List.not_mem_nil, or_false] at hv; rcases hv with rfl | rfl <;> rfl) (by unfold maxLen; omega) (by omega) (Nat.zero_le _)
  have ho : OwnU w' v' (us ++ [x, y]) := by
    unfold OwnU
    rw [List.map_append, List.length_append]
    exact h1
  obtain ⟨a', c', rfl, _⟩ := ho.shape
  refine ⟨a', c', w', hr, ho, h2, ?_⟩
  rcases h3 with h3 | h3
  · exact .inl h3
  · exact .inr (by rw [h3]; simp)

section
variable {w w1 : World} {R : Nat → Prop} {g n : Nat} {p : Hv ByteArray} {vu vg vb vu' v' : Value} {us ys : List PartT} {u : PartT}

/-- The last list is taken, and counted. -/
theorem PnM.pop (h : PnM w R g p vu vg vb (ys ++ [u])) (ho : OwnU w1 vu' ys) (hv : vu'.ownBlock = vu.ownBlock) (hg : w.grownBy w1 vu.ownBlock) (w2 : World)
    (h2 : w2 = (w1.setCell ⟨g, 0, none⟩ vu').setCell ⟨g, 3, none⟩ (.int .i64 ((p.tries + 1 : Nat) : Int))) :
    PnM w2 R g ⟨ys.reverse.map PartT.l, p.good, p.bad, p.tries + 1⟩ vu' vg vb ys ∧ Keep R w w2 ∧ StrsP w2 u.a u.cap u.l := by
  have hs : w2.heap.size = w1.heap.size := by rw [h2]; simp [World.setCell]
  have hb : ∀ k, k ≠ g → w2.heap[k]? = w1.heap[k]? := fun k hk => by rw [h2, heap_setCell_other _ _ _ _ (by simpa using hk), heap_setCell_other _ _ _ _ (by simpa using hk)]
  have hk : ∀ k, R k → k ≠ g → vu.ownBlock ≠ some k → w2.heap[k]? = w.heap[k]? := fun k hr hk hn => (hb k hk).trans (hg.block k (h.dom k hr) (fun e => hn e.symm))
  have hgg : w1.heap[g]? = w.heap[g]? := hg.block g (h.dom g h.rg) (fun e => (h.ru g e.symm).2 rfl)
  have hdom : ∀ k, R k → k < w2.heap.size := fun k hk => by rw [hs]; exact Nat.lt_of_lt_of_le (h.dom k hk) hg.size
  have hle : w.heap.size ≤ w2.heap.size := by rw [hs]; exact hg.size
  refine ⟨⟨hdom, ?_, ?_, rfl, fun x hx => ?_, fun x hx a ha => ?_, ?_, ?_, h.rg, fun k hk => ?_, fun k hk => ?_, fun k hk => ?_⟩, ⟨?_, ?_, ?_, hle, ?_⟩, ?_⟩
  · rw [h2, heap_setCell_same _ g 3 _ _ _ (heap_setCell_same w1 g 0 _ _ _ (hgg.trans h.head))]
    rfl
  · exact ownsRow_same ho (fun k hk => hb k (h.ru k (hv ▸ hk)).2)
  · refine (h.each x (by simp [hx])).same hle (fun _ a ha => ?_)
    obtain ⟨f1, f2, f3, _, _⟩ := h.far x (by simp [hx]) a ha
    exact hk _ f1 f2 f3
  · rw [hv]
    exact h.far x (by simp [hx]) a ha
  · exact ownsRow_same h.good (fun k hk' => hk k (h.rgd k hk').1 (h.rgd k hk').2.1 (h.rgd k hk').2.2)
  · exact ownsRow_same h.bad (fun k hk' => hk k (h.rbd k hk').1 (h.rbd k hk').2.1 (h.rbd k hk').2.2.1)
  · exact h.ru k (hv ▸ hk)
  · rw [hv]; exact h.rgd k hk
  · rw [hv]; exact h.rbd k hk
  · rw [h2]; exact hg.os
  · rw [h2]; exact hg.tape
  · rw [h2]; exact hg.output
  · intro k hk' hr
    refine (hb k (fun e => hr (by rw [e]; exact h.rg))).trans (hg.block k hk' (fun e => hr (h.ru k e.symm).1))
  · refine (h.each u (by simp)).same hle (fun _ a ha => ?_)
    obtain ⟨f1, f2, f3, _, _⟩ := h.far u (by simp) a ha
    exact hk _ f1 f2 f3

/-- More good ones. -/
theorem PnM.setGood (h : PnM w R g p vu vg vb us) {l : List ByteArray} (ho : OwnT w1 0 v' l) (hg : w.grownBy w1 vg.ownBlock) (hv : v'.ownBlock = vg.ownBlock ∨ v'.ownBlock = some w.heap.size) (w2 : World) (h2 : w2 = w1.setCell ⟨g, 1, none⟩ v') :
    PnM w2 (Go.Proofs.Ytbhknaggbenfnaa.ext R w w2) g ⟨p.rest, l, p.bad, p.tries⟩ vu v' vb us ∧ Keep R w w2 := by
  have hs : w2.heap.size = w1.heap.size := by rw [h2]; simp [World.setCell]
  have hb : ∀ k, k ≠ g → w2.heap[k]? = w1.heap[k]? := fun k hk => by rw [h2, heap_setCell_other _ _ _ _ (by simpa using hk)]
  have hk : ∀ k, R k → k ≠ g → vg.ownBlock ≠ some k → w2.heap[k]? = w.heap[k]? := fun k hr hk hn => (hb k hk).trans (hg.block k (h.dom k hr) (fun e => hn e.symm))
  have hgg : w1.heap[g]? = w.heap[g]? := hg.block g (h.dom g h.rg) (fun e => (h.rgd g e.symm).2.1 rfl)
  have hle : w.heap.size ≤ w2.heap.size := by rw [hs]; exact hg.size
  have hlt : ∀ k, v'.ownBlock = some k → k < w2.heap.size := fun k hk' => by rw [hs]; exact ho.lt k hk'
  have hgl := h.dom g h.rg
  refine ⟨⟨fun k hk' => hk'.elim (fun e => Nat.lt_of_lt_of_le (h.dom k e) hle) (fun e => e.2), ?_, ?_, h.rest, fun x hx => ?_, fun x hx a ha => ?_, ?_, ?_, .inl h.rg, fun k hk' => ?_, fun k hk' => ?_, fun k hk' => ?_⟩, ⟨?_, ?_, ?_, hle, ?_⟩⟩
  · rw [h2, heap_setCell_same _ g 1 _ _ _ (hgg.trans h.head)]
    rfl
  · exact ownsRow_same h.un (fun k hk' => hk k (h.ru k hk').1 (h.ru k hk').2 (fun e => (h.rgd k e).2.2 hk'))
  · refine (h.each x hx).same hle (fun _ a ha => ?_)
    obtain ⟨f1, f2, _, f4, _⟩ := h.far x hx a ha
    exact hk _ f1 f2 f4
  · obtain ⟨f1, f2, f3, f4, f5⟩ := h.far x hx a ha
    refine ⟨.inl f1, f2, f3, fun e => ?_, f5⟩
    rcases hv with e1 | e1
    · exact f4 (e1 ▸ e)
    · rw [e1] at e
      injection e with e
      have := h.dom _ f1
      omega
  · refine ownsRow_same ho (fun k hk' => hb k ?_)
    rcases hv with e1 | e1
    · exact (h.rgd k (e1 ▸ hk')).2.1
    · rw [e1] at hk'
      injection hk' with e
      omega
  · exact ownsRow_same h.bad (fun k hk' => hk k (h.rbd k hk').1 (h.rbd k hk').2.1 (h.rbd k hk').2.2.2)
  · exact ⟨.inl (h.ru k hk').1, (h.ru k hk').2⟩
  · rcases hv with e1 | e1
    · have := h.rgd k (e1 ▸ hk')
      exact ⟨.inl this.1, this.2⟩
    · have h3 := hlt k hk'
      rw [e1] at hk'
      injection hk' with e
      refine ⟨.inr ⟨by omega, h3⟩, by omega, fun e' => ?_⟩
      have := h.dom k (h.ru k e').1
      omega
  · obtain ⟨f1, f2, f3, f4⟩ := h.rbd k hk'
    refine ⟨.inl f1, f2, f3, fun e => ?_⟩
    rcases hv with e1 | e1
    · exact f4 (e1 ▸ e)
    · rw [e1] at e
      injection e with e
      have := h.dom _ f1
      omega
  · rw [h2]; exact hg.os
  · rw [h2]; exact hg.tape
  · rw [h2]; exact hg.output
  · intro k hk' hr
    exact (hb k (fun e => hr (by rw [e]; exact h.rg))).trans (hg.block k hk' (fun e => hr (h.rgd k e.symm).1))

/-- One bad one more. -/
theorem PnM.setBad (h : PnM w R g p vu vg vb us) {l : List ByteArray} (ho : OwnT w1 0 v' l) (hg : w.grownBy w1 vb.ownBlock) (hv : v'.ownBlock = vb.ownBlock ∨ v'.ownBlock = some w.heap.size) (w2 : World) (h2 : w2 = w1.setCell ⟨g, 2, none⟩ v') :
    PnM w2 (Go.Proofs.Ytbhknaggbenfnaa.ext R w w2) g ⟨p.rest, p.good, l, p.tries⟩ vu vg v' us ∧ Keep R w w2 := by
  have hs : w2.heap.size = w1.heap.size := by rw [h2]; simp [World.setCell]
  have hb : ∀ k, k ≠ g → w2.heap[k]? = w1.heap[k]? := fun k hk => by rw [h2, heap_setCell_other _ _ _ _ (by simpa using hk)]
  have hk : ∀ k, R k → k ≠ g → vb.ownBlock ≠ some k → w2.heap[k]? = w.heap[k]? := fun k hr hk hn => (hb k hk).trans (hg.block k (h.dom k hr) (fun e => hn e.symm))
  have hgg : w1.heap[g]? = w.heap[g]? := hg.block g (h.dom g h.rg) (fun e => (h.rbd g e.symm).2.1 rfl)
  have hle : w.heap.size ≤ w2.heap.size := by rw [hs]; exact hg.size
  have hlt : ∀ k, v'.ownBlock = some k → k < w2.heap.size := fun k hk' => by rw [hs]; exact ho.lt k hk'
  have hgl := h.dom g h.rg
  refine ⟨⟨fun k hk' => hk'.elim (fun e => Nat.lt_of_lt_of_le (h.dom k e) hle) (fun e => e.2), ?_, ?_, h.rest, fun x hx => ?_, fun x hx a ha => ?_, ?_, ?_, .inl h.rg, fun k hk' => ?_, fun k hk' => ?_, fun k hk' => ?_⟩, ⟨?_, ?_, ?_, hle, ?_⟩⟩
  · rw [h2, heap_setCell_same _ g 2 _ _ _ (hgg.trans h.head)]
    rfl
  · exact ownsRow_same h.un (fun k hk' => hk k (h.ru k hk').1 (h.ru k hk').2 (fun e => (h.rbd k e).2.2.1 hk'))
  · refine (h.each x hx).same hle (fun _ a ha => ?_)
    obtain ⟨f1, f2, _, _, f5⟩ := h.far x hx a ha
    exact hk _ f1 f2 f5
  · obtain ⟨f1, f2, f3, f4, f5⟩ := h.far x hx a ha
    refine ⟨.inl f1, f2, f3, f4, fun e => ?_⟩
    rcases hv with e1 | e1
    · exact f5 (e1 ▸ e)
    · rw [e1] at e
      injection e with e
      have := h.dom _ f1
      omega
  · exact ownsRow_same h.good (fun k hk' => hk k (h.rgd k hk').1 (h.rgd k hk').2.1 (fun e => (h.rbd k e).2.2.2 hk'))
  · refine ownsRow_same ho (fun k hk' => hb k ?_)
    rcases hv with e1 | e1
    · exact (h.rbd k (e1 ▸ hk')).2.1
    · rw [e1] at hk'
      injection hk' with e
      omega
  · exact ⟨.inl (h.ru k hk').1, (h.ru k hk').2⟩
  · exact ⟨.inl (h.rgd k hk').1, (h.rgd k hk').2⟩
  · rcases hv with e1 | e1
    · have := h.rbd k (e1 ▸ hk')
      exact ⟨.inl this.1, this.2⟩
    · have h3 := hlt k hk'
      rw [e1] at hk'
      injection hk' with e
      refine ⟨.inr ⟨by omega, h3⟩, by omega, fun e' => ?_, fun e' => ?_⟩
      · have := h.dom k (h.ru k e').1
        omega
      · have := h.dom k (h.rgd k e').1
        omega
  · rw [h2]; exact hg.os
  · rw [h2]; exact hg.tape
  · rw [h2]; exact hg.output
  · intro k hk' hr
    exact (hb k (fun e => hr (by rw [e]; exact h.rg))).trans (hg.block k hk' (fun e => hr (h.rbd k e.symm).1))

/-- Two lists more, in new memory. -/
theorem PnM.setRest {w0 : World} (h : PnM w R g p vu vg vb us) (hb0 : Below w.heap.size w w0) {x y : PartT} (hx : StrsP w0 x.a x.cap x.l) (hy : StrsP w0 y.a y.cap y.l) (nx : ∀ a, x.a = some a → w.heap.size ≤ a.block ∧ a.block < w0.heap.size) (ny : ∀ a, y.a = some a → w.heap.size ≤ a.block ∧ a.block < w0.heap.size)
    (ho : OwnU w1 v' (us ++ [x, y])) (hg : (w0.alloc (.cells #[x.val, y.val] 27)).grownBy w1 vu.ownBlock) (hv : v'.ownBlock = vu.ownBlock ∨ v'.ownBlock = some (w0.heap.size + 1)) (w2 : World) (h2 : w2 = w1.setCell ⟨g, 0, none⟩ v') :
    PnM w2 (Go.Proofs.Ytbhknaggbenfnaa.ext R w w2) g ⟨y.l :: x.l :: p.rest, p.good, p.bad, p.tries⟩ v' vg vb (us ++ [x, y]) ∧ Keep R w w2 := by
  have s0 := hb0.size
  have s1 := hg.size
  simp only [World.alloc, Array.size_push] at s1
  have hs : w2.heap.size = w1.heap.size := by rw [h2]; simp [World.setCell]
  have hb : ∀ k, k ≠ g → w2.heap[k]? = w1.heap[k]? := fun k hk => by rw [h2, heap_setCell_other _ _ _ _ (by simpa using hk)]
  have hk0 : ∀ k, k < w0.heap.size → k ≠ g → vu.ownBlock ≠ some k → w2.heap[k]? = w0.heap[k]? := fun k hr hk hn => (hb k hk).trans ((hg.block k (by simp; omega) (fun e => hn e.symm)).trans (Below.heap_alloc _ _ _ hr))
  have hk : ∀ k, R k → k ≠ g → vu.ownBlock ≠ some k → w2.heap[k]? = w.heap[k]? := fun k hr hk hn => (hk0 k (by have := h.dom k hr; omega) hk hn).trans (hb0.block k (h.dom k hr))
  have hgl := h.dom g h.rg
  have hgg : w1.heap[g]? = w.heap[g]? := (hg.block g (by simp; omega) (fun e => (h.ru g e.symm).2 rfl)).trans ((Below.heap_alloc _ _ _ (by omega)).trans (hb0.block g hgl))
  have hle : w.heap.size ≤ w2.heap.size := by omega
  have hlt : ∀ k, v'.ownBlock = some k → k < w2.heap.size := fun k hk' => by rw [hs]; exact ho.lt k hk'
  have hul : ∀ k, vu.ownBlock = some k → k < w.heap.size := fun k e => h.dom k (h.ru k e).1
  have hgn : ∀ k, vg.ownBlock = some k → k < w.heap.size := fun k e => h.dom k (h.rgd k e).1
  have hbn : ∀ k, vb.ownBlock = some k → k < w.heap.size := fun k e => h.dom k (h.rbd k e).1
  have hnew : ∀ (z : PartT), StrsP w0 z.a z.cap z.l → (∀ a, z.a = some a → w.heap.size ≤ a.block ∧ a.block < w0.heap.size) → StrsP w2 z.a z.cap z.l := fun z hz nz =>
    hz.same (by omega) (fun _ a ha => by
      have := nz a ha
      exact hk0 _ this.2 (by omega) (fun e => by have := hul _ e; omega))
  have hfar : ∀ (z : PartT), (∀ a, z.a = some a → w.heap.size ≤ a.block ∧ a.block < w0.heap.size) → ∀ a, z.a = some a → Go.Proofs.Ytbhknaggbenfnaa.ext R w w2 a.block ∧ a.block ≠ g ∧ v'.ownBlock ≠ some a.block ∧ vg.ownBlock ≠ some a.block ∧ vb.ownBlock ≠ some a.block := fun z nz a ha => by
    have h1 := nz a ha
    refine ⟨.inr ⟨h1.1, by omega⟩, by omega, fun e => ?_, fun e => by have := hgn _ e; omega, fun e => by have := hbn _ e; omega⟩
    rcases hv with e1 | e1
    · have := hul _ (e1 ▸ e); omega
    · rw [e1] at e
      injection e with e
      omega
  refine ⟨⟨fun k hk' => hk'.elim (fun e => Nat.lt_of_lt_of_le (h.dom k e) hle) (fun e => e.2), ?_, ?_, ?_, fun z hz => ?_, fun z hz a ha => ?_, ?_, ?_, .inl h.rg, fun k hk' => ?_, fun k hk' => ?_, fun k hk' => ?_⟩, ⟨?_, ?_, ?_, hle, ?_⟩⟩
  · rw [h2, heap_setCell_same _ g 0 _ _ _ (hgg.trans h.head)]
    rfl
  · refine ownsRow_same ho (fun k hk' => hb k ?_)
    rcases hv with e1 | e1
    · exact (h.ru k (e1 ▸ hk')).2
    · rw [e1] at hk'
      injection hk' with e
      omega
  · rw [← h.rest]; simp
  · simp only [List.mem_append, List.mem_cons, List.not_mem_nil, or_false] at hz
    rcases hz with hz | rfl | rfl
    · refine (h.each z hz).same hle (fun _ a ha => ?_)
      obtain ⟨f1, f2, f3, _, _⟩ := h.far z hz a ha
      exact hk _ f1 f2 f3
    · exact hnew z hx nx
    · exact hnew z hy ny
  · simp only [List.mem_append, List.mem_cons, List.not_mem_nil, or_false] at hz
    rcases hz with hz | rfl | rfl
    · obtain ⟨f1, f2, f3, f4, f5⟩ := h.far z hz a ha
      refine ⟨.inl f1, f2, fun e => ?_, f4, f5⟩
      rcases hv with e1 | e1
      · exact f3 (e1 ▸ e)
      · rw [e1] at e
        injection e with e
        have := h.dom _ f1
        omega
    · exact hfar z nx a ha
    · exact hfar z ny a ha
  · exact ownsRow_same h.good (fun k hk' => hk k (h.rgd k hk').1 (h.rgd k hk').2.1 (h.rgd k hk').2.2)
  · exact ownsRow_same h.bad (fun k hk' => hk k (h.rbd k hk').1 (h.rbd k hk').2.1 (h.rbd k hk').2.2.1)
  · rcases hv with e1 | e1
    · have := h.ru k (e1 ▸ hk')
      exact ⟨.inl this.1, this.2⟩
    · have h3 := hlt k hk'
      rw [e1] at hk'
      injection hk' with e
      exact ⟨.inr ⟨by omega, h3⟩, by omega⟩
  · obtain ⟨f1, f2, f3⟩ := h.rgd k hk'
    refine ⟨.inl f1, f2, fun e => ?_⟩
    rcases hv with e1 | e1
    · exact f3 (e1 ▸ e)
    · rw [e1] at e
      injection e with e
      have := h.dom _ f1
      omega
  · obtain ⟨f1, f2, f3, f4⟩ := h.rbd k hk'
    refine ⟨.inl f1, f2, fun e => ?_, f4⟩
    rcases hv with e1 | e1
    · exact f3 (e1 ▸ e)
    · rw [e1] at e
      injection e with e
      have := h.dom _ f1
      omega
  · rw [h2]; exact hg.os.trans hb0.os
  · rw [h2]; exact hg.tape.trans hb0.tape
  · rw [h2]; exact hg.output.trans hb0.output
  · intro k hk' hr
    exact (hk0 k (by omega) (fun e => hr (by rw [e]; exact h.rg)) (fun e => hr (h.ru k e).1)).trans (hb0.block k hk')

end

end Go.Proofs.Ytbhknaggbenfnaa
