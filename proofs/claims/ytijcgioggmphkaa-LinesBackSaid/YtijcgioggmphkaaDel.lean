/- What slices.Clone and slices.Delete of Go's library do to lines. -/
import Derived.Test.YtijcgioggmphkaaOwn
namespace Go.Proofs.Ytijcgioggmphkaa
open Go.RowKit Go.Lib Go.Shelf

theorem lns_cells {w : World} {b o : Nat} {l : List Ln} (hc : ∀ j x, l[j]? = some x → w.cell? ⟨b, o + j * 3, none⟩ = some (.string x.sku) ∧ w.cell? ⟨b, o + j * 3 + 1, none⟩ = some (.int .i64 x.qty) ∧ w.cell? ⟨b, o + j * 3 + 2, none⟩ = some (.int .i64 x.wt)) :
    ∀ j u, (cellsL l)[j]? = some u → w.cell? ⟨b, o + j, none⟩ = some u := by
  intro j u hj
  have hlt : j < l.length * 3 := by
    have := (List.getElem?_eq_some_iff.1 hj).1
    rwa [cellsL_len] at this
  have hk : j / 3 < l.length := by omega
  obtain ⟨c1, c2, c3⟩ := hc (j / 3) l[j / 3] (List.getElem?_eq_getElem hk)
  obtain ⟨d1, d2, d3⟩ := cellsL_get l (j / 3) l[j / 3] (List.getElem?_eq_getElem hk)
  rcases (by omega : j % 3 = 0 ∨ j % 3 = 1 ∨ j % 3 = 2) with h | h | h
  · rw [show j / 3 * 3 = j by omega] at d1
    rw [d1] at hj
    rw [← hj, ← c1, show o + j / 3 * 3 = o + j by omega]
  · rw [show j / 3 * 3 + 1 = j by omega] at d2
    rw [d2] at hj
    rw [← hj, ← c2, show o + j / 3 * 3 + 1 = o + j by omega]
  · rw [show j / 3 * 3 + 2 = j by omega] at d3
    rw [d3] at hj
    rw [← hj, ← c3, show o + j / 3 * 3 + 2 = o + j by omega]

def Cloned (l : List Ln) (w : World) (e : Ending) (w' : World) : Prop := ∃ v', e = .returned v' ∧ OwnL w' w.heap.size v' l ∧ Below w.heap.size w w'

set_option maxHeartbeats 2000000 in
/-- slices.Clone of lines. -/
theorem clone_any (a : Option Addr) (cap : Nat) (l : List Ln) (w : World) (h : LnsP w a cap l) (hne : l ≠ []) (hm : l.length ≤ 1000) :
    Calls Try.prog 25 #[.slice a l.length cap] w (Cloned l w) := by
  obtain ⟨i0, hi0, hz0, hzs, hzb⟩ := info_parts Try.info27
  obtain ⟨b, o, rfl, hlt, hc⟩ := h.cell hne
  have A := Lib.hid (lns_cells hc)
  have HL := Lib.hid (cellsL_len l)
  have OM := Lib.hid (show (w.alloc (.cells #[] 27)).ownsRow w.heap.size 27 3 (.slice (some ⟨w.heap.size, 0, none⟩) 0 0) 0 [] from World.ownsRow_made w #[] 0 (Nat.le_refl _) (Nat.zero_le _) (by simp))
  have q22 : ∀ (w : World) (a : Option Addr) (n c n' c' : Nat), (binOp .eql 22 (.slice a n c) (.slice none n' c')).run Try.prog w = .ok (.bool a.isNone) w := fun w a n c n' c' => Lib.run_eql_slice_nil w _ _ a n c n' c' Try.underlying22
  clear h hc hne
  go_enter Try.func25, Try.ntmps25
  go_wp2_with (at_builtin; go_must (refine wpList_append_own _ rfl _ _ 22 rfl w.heap.size 27 i0 _ 3 32 Try.underlying22 hi0 hz0 hzs hzb rfl (by decide) _ _ _ rfl OM.out ⟨b, o, none⟩ l.length cap (cellsL l) rfl HL.out (fun j u hj => by rw [Addr.add_lit]; exact Lib.cell?_alloc_some _ (A.out j u hj)) (cellsL_one l) (by unfold maxLen; omega) (by omega) (by simp) ?_; intro v' w1 hown hgrow hnil))
  go_wp2_with fail
  go_ret
  exact ⟨v', rfl, by unfold OwnL; simpa using hown, ((Below.refl _ w).alloc (Nat.le_refl _) _).grown hgrow (by simp) (fun k hk => (World.ownsRow.lt OM.out k hk).1)⟩

/-- 'clear(s)', s a slice of one line. -/
theorem run_clear_one (w : World) (ty : TypeId) (b o c : Nat) (hc : ∀ j, j < 3 → (w.cell? ⟨b, o + j, none⟩).isSome = true) (hf : ∀ j, j < 3 → w.frozen? ⟨b, o + j, none⟩ = false) :
    (Builtin.clear_ #[22] ty #[.slice (some ⟨b, o, none⟩) 1 c]).run Try.prog w = .ok (.tuple #[]) (w.setCells b o [.string ⟨#[]⟩, .int .i64 0, .int .i64 0]) := by
  have hst := run_storeCells_cells (P := Try.prog) b o [.string ⟨#[]⟩, .int .i64 0, .int .i64 0] 0 w (by simpa using hc) (by simpa using hf) (by intro v hv; simp only [List.mem_cons, List.not_mem_nil, or_false] at hv; rcases hv with rfl | rfl | rfl <;> rfl)
  simp only [Nat.add_zero] at hst
  have hzc : (Builtin.zeroCells zLn.cells 1).toList = [.string ⟨#[]⟩, .int .i64 0, .int .i64 0] := by kernel_rfl
  have hv : ∀ w, (zeroValue 27).run Try.prog w = .ok zLn w := Try.zeroValue27
  simp [Builtin.clear_, run_underlying Try.underlying22, hv]
  rw [hzc, hst]
  rfl

def DelOwn (base : Nat) (W : World) (l : List Ln) (e : Ending) (w' : World) : Prop := ∃ v', e = .returned v' ∧ OwnL w' base v' l ∧ Below base W w'

set_option maxHeartbeats 4000000 in
set_option maxRecDepth 100000 in
/-- slices.Delete of one line out of a row of the call's own. -/
theorem delete_any (base g cap m i : Nat) (l : List Ln) (w : World) (h : OwnL w base (.slice (some ⟨g, 0, none⟩) (m + 1) cap) l) (hl : l.length = m + 1) (hi : i ≤ m) (hm : m ≤ 1000000) :
    Calls Try.prog 26 #[.slice (some ⟨g, 0, none⟩) (m + 1) cap, .int .i64 i, .int .i64 (i + 1)] w (DelOwn base w (l.take i ++ l.drop (i + 1))) := by
  obtain ⟨i0, hi0, hz0, hzs, hzb⟩ := info_parts Try.info27
  rcases h.2 with ⟨e, _⟩ | ⟨g', cap', cur, e, h1, h2, h3, h4, h5, h6⟩
  · cases e
  injection e with e1 e2 e3
  injection e1 with e1
  injection e1 with e1
  subst e1 e3
  clear e2
  rw [hl] at h6 h3
  have hcl : (cellsL l).length = (m + 1) * 3 := by rw [cellsL_len, hl]
  have hcs : ∀ j v, (cellsL l)[j]? = some v → w.cell? ⟨g, j, none⟩ = some v := by
    intro j v hj
    rw [← h6, List.getElem?_take] at hj
    split at hj
    · simp only [Array.getElem?_toList] at hj
      simp [World.cell?, h2, hj]
    · cases hj
  have hsome : ∀ j, j < cap * 3 → (w.cell? ⟨g, j, none⟩).isSome = true := by
    intro j hj
    simp [World.cell?, h2]
    omega
  have hfz : ∀ j, w.frozen? ⟨g, j, none⟩ = false := by
    intro j
    simp [World.frozen?, h2]
  obtain ⟨news, hnews⟩ : ∃ news, news = (cellsL l).drop ((i + 1) * 3) := ⟨_, rfl⟩
  have hnl : news.length = (m - i) * 3 := by rw [hnews, List.length_drop, hcl]; omega
  have hn1 : ∀ u ∈ news, u.oneCell' = true := fun u hu => by rw [hnews] at hu; exact cellsL_one l u (List.mem_of_mem_drop hu)
  obtain ⟨W1, hW1⟩ : ∃ W1, W1 = w.drew.setCells g (i * 3) news := ⟨_, rfl⟩
  have hap : ∀ A : Addr, (∀ j u, news[j]? = some u → w.cell? (A.add j) = some u) → ∀ ty sc, (Builtin.append_ #[22, 22] ty #[.slice (some ⟨g, 0, none⟩) i cap, .slice (some A) (m - i) sc]).run Try.prog w.drew = .ok (.slice (some ⟨g, 0, none⟩) m cap) W1 := by
    intro A hA ty sc
    have hsrc : Src Try.prog i0.size 22 (.slice (some A) (m - i) sc) (m - i) news w.drew := by
      rw [hzs]
      exact Src.ofSlice w.drew Try.underlying22 A (m - i) sc news hnl hA hn1
    have := run_append_room_src w.drew 22 22 ty 27 i0 Try.underlying22 hi0 g 0 i cap _ (m - i) news hsrc (by omega) (fun j hj => by rw [hnl] at hj; rw [hzs]; exact hsome _ (by omega)) (fun j hj => hfz _)
    rw [hzs, Nat.zero_add, show i + (m - i) = m by omega] at this
    rw [this, hW1]
  have hW1c : ∀ j, j < cap * 3 → (W1.cell? ⟨g, j, none⟩).isSome = true := fun j hj => by
    rw [hW1]
    exact some_setCells g news (i * 3) w.drew (fun t ht => hsome _ (by rw [hnl] at ht; omega)) _ (hsome j hj)
  have hW1f : ∀ j, W1.frozen? ⟨g, j, none⟩ = false := fun j => by rw [hW1, World.frozen?_setCells]; exact hfz j
  obtain ⟨W2, hW2⟩ : ∃ W2, W2 = W1.setCells g (m * 3) [.string ⟨#[]⟩, .int .i64 0, .int .i64 0] := ⟨_, rfl⟩
  have hclr : ∀ ty sc, (Builtin.clear_ #[22] ty #[.slice (some ⟨g, m * 3, none⟩) 1 sc]).run Try.prog W1 = .ok (.tuple #[]) W2 := fun ty sc => by
    rw [hW2]
    exact run_clear_one W1 ty g (m * 3) sc (fun j hj => hW1c _ (by omega)) (fun j hj => hW1f _)
  have FIN := Lib.hid (show DelOwn base w (l.take i ++ l.drop (i + 1)) (.returned (.slice (some ⟨g, 0, none⟩) m cap)) W2 by
    have hlen : (l.take i ++ l.drop (i + 1)).length = m := by simp; omega
    obtain ⟨c1, k1, k2⟩ := heap_setCells g 27 (0, 0) news (i * 3) w.drew cur h2 (by rw [hnl]; omega)
    have hc1s : c1.size = cap * 3 := by
      rw [← Array.length_toList, k2]
      simp only [List.length_append, List.length_take, List.length_drop, Array.length_toList, h5, hnl]
      omega
    rw [← hW1] at k1
    obtain ⟨c2, m1, m2⟩ := heap_setCells g 27 (0, 0) [.string ⟨#[]⟩, .int .i64 0, .int .i64 0] (m * 3) W1 c1 k1 (by rw [hc1s]; show m * 3 + 3 ≤ _; omega)
    have hc2s : c2.size = cap * 3 := by
      rw [← Array.length_toList, m2]
      simp only [List.length_append, List.length_take, List.length_drop, Array.length_toList, hc1s, List.length_cons, List.length_nil]
      omega
    refine ⟨_, rfl, ⟨by rw [cellsL_len], .inr ⟨g, cap, c2, by rw [hlen], h1, by rw [hW2]; exact m1, by omega, h4, hc2s, ?_⟩⟩, ?_⟩
    · rw [hlen, m2, List.append_assoc, take_front (by rw [List.length_take, Array.length_toList, hc1s]; omega), k2, take_front (by simp only [List.length_append, List.length_take, Array.length_toList, h5, hnl]; omega)]
      rw [cellsL_append, ← cellsL_take, ← cellsL_drop, hnews, ← h6, List.take_take]
      congr 2
      omega
    · rw [hW2, hW1]
      exact below_setCells h1 _ _ _ (below_setCells h1 _ _ _ (Below.refl _ _).drew))
  generalize l.take i ++ l.drop (i + 1) = R at *
  have hAP := Lib.hid hap
  have hCS := Lib.hid (show ∀ j u, news[j]? = some u → w.cell? ((⟨g, (i + 1) * 3, none⟩ : Addr).add j) = some u from fun j u hj => by
    rw [Addr.add_lit]
    rw [hnews, List.getElem?_drop] at hj
    exact hcs _ u hj)
  have hNL := Lib.hid hnl
  have HW1 := Lib.hid hW1
  have S2 := Lib.hid hn1
  have S3 := Lib.hid (show ∀ t, t < news.length → (w.drew.cell? ⟨g, 0 + i * 3 + t, none⟩).isSome = true ∧ w.drew.frozen? ⟨g, 0 + i * 3 + t, none⟩ = false from fun t ht => ⟨hsome _ (by rw [hnl] at ht; omega), hfz _⟩)
  have HI := Lib.hid (And.intro hi0 hzs)
  unfold maxLen at h4
  clear hap hW1c hW1f hW1 hW2 hnews hn1 hsome hfz hcs hcl h6 h2 h hi0 hz0 hzs hzb hl h5 hnl
  have hw1 : IntKind.i64.wrap ((i : Int) + 1) = (i : Int) + 1 := by rw [IntKind.wrap_i64]; omega
  have hb1 : (0 : Int) ≤ (i : Int) + 1 := by omega
  have htn : ((i : Int) + 1).toNat = i + 1 := by omega
  have hb2 : (i : Int) + 1 ≤ (m : Int) + 1 := by omega
  have hne1 : ¬ ((i : Int) = (i : Int) + 1) := by omega
  by_cases hcp : cap = i + 1
  · have him : i = m := by omega
    subst him
    have h0 : news = [] := List.eq_nil_of_length_eq_zero (by rw [hNL.out]; omega)
    subst h0
    have hap := hAP.out ⟨g, 0, none⟩ (by simp)
    simp only [Nat.sub_self] at hap
    have HAP := Lib.hid hap
    clear hap
    subst hcp
    have e : W1 = w.drew := HW1.out
    clear HW1 HAP hAP hCS hNL S2 S3
    subst e
    go_enter Try.func26, Try.ntmps26
    go_wp2_with fail
    go_region
    go_wp2
    go_ret
    exact FIN.out
  · have hcm : ¬ (cap = m) := by omega
    have hic : i ≤ cap := by omega
    have hjc : i + 1 ≤ cap := by omega
    have hrm : i + (m - i) ≤ cap := by omega
    have HIM := Lib.hid (show i + (m - i) = m by omega)
    clear hAP
    go_enter Try.func26, Try.ntmps26
    go_wp2_with fail
    go_region_law (refine step_append_room rfl (.tmp 22) (.tmp 25) 22 rfl 27 i0 3 Try.underlying22 HI.out.1 HI.out.2 g 0 i cap (by simp [Act.eval, Act.put]) ⟨g, (i + 1) * 3, none⟩ (m - i) (cap - (i + 1)) news (by simp [Act.eval, Act.put]) hNL.out hCS.out S2.out hrm S3.out ?_; rw [HIM.out, Nat.zero_add, ← HW1.out])
    go_wp2
    go_ret
    exact FIN.out

end Go.Proofs.Ytijcgioggmphkaa
