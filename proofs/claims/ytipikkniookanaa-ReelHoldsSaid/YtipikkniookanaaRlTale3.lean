/- A tale's words copied, with one more. -/
import Derived.Test.YtipikkniookanaaRlTale2
namespace Go.Proofs.Ytipikkniookanaa
set_option maxRecDepth 100000
open Go.RowKit

theorem str_one (l : List Nat) : (txt l).oneCell' = true := rfl

/-- Texts behind a row of none. -/
theorem copy_row (w : World) (base r : Nat) (hown : OwnSS w base (.slice (some ⟨r, 0, none⟩) 0 0) []) (hbase : base ≤ w.heap.size) (A : Option Addr) (cA : Nat) (ws : List (List Nat)) (hy : SSP w A cA ws) (hn : ws.length ≤ 100000) (ty : TypeId) :
    ∃ a1 c1 w1, ApR 38 ty (.slice (some ⟨r, 0, none⟩) 0 0) (.slice A ws.length cA) w = .ok (.value (.slice a1 ws.length c1)) w1 ∧ OwnSS w1 base (.slice a1 ws.length c1) ws ∧ w.grownBy w1 (some r) := by
  obtain ⟨i0, hi0, hz0, hzs, hzb⟩ := info_parts infoS
  have key : ∀ v' w', (Builtin.append_ #[38, 38] ty #[.slice (some ⟨r, 0, none⟩) 0 0, .slice A ws.length cA]).run Try.prog w = .ok v' w' → ApR 38 ty (.slice (some ⟨r, 0, none⟩) 0 0) (.slice A ws.length cA) w = .ok (.value v') w' := by
    intro v' w' h
    simp only [ApR, Sem.run_bind, h, Sem.run_pure, Result.andThen_ok]
  cases A with
  | none =>
    have hy0 : ws = [] := by
      cases ws with
      | nil => rfl
      | cons y r =>
        obtain ⟨b, o, e, _⟩ := hy.cell (by simp)
        cases e
    subst hy0
    have hsrc : Src Try.prog i0.size 38 (.slice none 0 cA) 0 [] w := Src.ofNil _ Try.underlying38 cA
    have hr := run_append_room_src w 38 38 ty 9 i0 Try.underlying38 hi0 r 0 0 0 _ 0 [] hsrc (by omega) (by simp) (by simp)
    exact ⟨_, _, _, key _ _ hr, hown, grown_refl _ _⟩
  | some ad =>
    have hc : ∀ j u, (ws.map txt)[j]? = some u → w.cell? (ad.add j) = some u := by
      intro j u hj
      have hne : ws ≠ [] := by intro e; subst e; simp at hj
      obtain ⟨b, o, e, _, hc⟩ := hy.cell hne
      injection e with e
      subst e
      rw [Addr.add_lit]
      rw [List.getElem?_map] at hj
      obtain ⟨x, hx, rfl⟩ := Option.map_eq_some_iff.1 hj
      exact hc j x hx
    obtain ⟨v', w', hr, h1, h2, _⟩ := run_append_own w base 38 ty 9 i0 _ 1 16 Try.underlying38 hi0 hz0 hzs hzb rfl (by decide) _ 0 _ hown ad ws.length cA (ws.map txt) (by simp) hc (fun u hu => by obtain ⟨x, _, rfl⟩ := List.mem_map.1 hu; rfl) (by unfold maxLen; omega) (by omega) hbase
    obtain ⟨a', c', rfl, _⟩ := own_slice h1
    rw [Nat.zero_add] at hr h1
    exact ⟨a', c', w', key _ _ hr, h1, h2⟩
/-- One text more, that lies at a block of its own. -/
theorem push_row (w : World) (base : Nat) (v : Value) (ls : List (List Nat)) (h : OwnSS w base v ls) (hbase : base ≤ w.heap.size) (s : Nat) (l : List Nat) (hs : RowAt w s 9 [.string (strB l)]) (hn : ls.length < 100000) (ty : TypeId) :
    ∃ a' c' w', ApR 38 ty v (.slice (some ⟨s, 0, none⟩) 1 1) w = .ok (.value (.slice a' (ls.length + 1) c')) w' ∧ OwnSS w' base (.slice a' (ls.length + 1) c') (ls ++ [l]) ∧ w.grownBy w' v.ownBlock := by
  have ho1 : w.ownsRow 0 9 1 v ls.length (ls.map txt) := ownsRow_base h (fun k _ => Nat.zero_le k)
  obtain ⟨v', w', h1, h2, h3, h4⟩ := ap_own 38 ty 9 1 16 _ (by omega) infoS Try.underlying38 rfl v ls.length (ls.map txt) ho1 s 1 1 9 _ hs rfl (fun u hu => by simp at hu; subst hu; rfl) (by omega) (by omega)
  obtain ⟨a', c', rfl, _⟩ := own_slice h2
  refine ⟨a', c', w', h1, ?_, h3⟩
  unfold OwnSS
  rw [List.length_append, List.map_append]
  exact ownsRow_base h2 (fun k hk => (h4 k hk).elim (fun h' => (h.lt k h').1) (fun h' => by omega))

/-- The three orders of a copy and a word more. -/
theorem copy_push (w : World) (A : Option Addr) (cA : Nat) (ws : List (List Nat)) (hy : SSP w A cA ws) (hn : ws.length < 100000) (l : List Nat) (ty : TypeId) :
    (∃ a1 c1 w1 a2 c2 w2, ApR 38 ty (.slice (some ⟨w.heap.size, 0, none⟩) 0 0) (.slice A ws.length cA) (w.alloc (.cells #[] 9)) = .ok (.value (.slice a1 ws.length c1)) w1 ∧ Below w.heap.size w w1 ∧
      ApR 38 ty (.slice a1 ws.length c1) (.slice (some ⟨w1.heap.size, 0, none⟩) 1 1) (w1.alloc (.cells #[.string (strB l)] 9)) = .ok (.value (.slice a2 (ws.length + 1) c2)) w2 ∧ OwnSS w2 w.heap.size (.slice a2 (ws.length + 1) c2) (ws ++ [l]) ∧ Below w.heap.size w w2) ∧
    (∃ a1 c1 w1 a2 c2 w2, ApR 38 ty (.slice (some ⟨w.heap.size, 0, none⟩) 0 0) (.slice A ws.length cA) ((w.alloc (.cells #[] 9)).alloc (.cells #[.string (strB l)] 9)) = .ok (.value (.slice a1 ws.length c1)) w1 ∧
      ApR 38 ty (.slice a1 ws.length c1) (.slice (some ⟨w.heap.size + 1, 0, none⟩) 1 1) w1 = .ok (.value (.slice a2 (ws.length + 1) c2)) w2 ∧ OwnSS w2 w.heap.size (.slice a2 (ws.length + 1) c2) (ws ++ [l]) ∧ Below w.heap.size w w2) ∧
    (∃ a1 c1 w1 a2 c2 w2, ApR 38 ty (.slice (some ⟨w.heap.size + 1, 0, none⟩) 0 0) (.slice A ws.length cA) ((w.alloc (.cells #[.string (strB l)] 9)).alloc (.cells #[] 9)) = .ok (.value (.slice a1 ws.length c1)) w1 ∧
      ApR 38 ty (.slice a1 ws.length c1) (.slice (some ⟨w.heap.size, 0, none⟩) 1 1) w1 = .ok (.value (.slice a2 (ws.length + 1) c2)) w2 ∧ OwnSS w2 w.heap.size (.slice a2 (ws.length + 1) c2) (ws ++ [l]) ∧ Below w.heap.size w w2) := by
  have bE := (Below.refl w.heap.size w).alloc (Nat.le_refl _) (.cells #[] 9)
  have bS := (Below.refl w.heap.size w).alloc (Nat.le_refl _) (.cells #[.string (strB l)] 9)
  have bES := bE.alloc bE.size (.cells #[.string (strB l)] 9)
  have bSE := bS.alloc bS.size (.cells #[] 9)
  refine ⟨?_, ?_, ?_⟩
  · obtain ⟨a1, c1, w1, e1, o1, g1⟩ := copy_row (w.alloc (.cells #[] 9)) w.heap.size w.heap.size (ownSS_fresh w w.heap.size (Nat.le_refl _)) bE.size A cA ws (hy.below bE) (by omega) ty
    have b1 : Below w.heap.size w w1 := bE.grown g1 bE.size (fun k hk => by injection hk with hk; omega)
    have b2 := b1.alloc b1.size (.cells #[.string (strB l)] 9)
    obtain ⟨a2, c2, w2, e2, o2, g2⟩ := push_row (w1.alloc (.cells #[.string (strB l)] 9)) w.heap.size _ ws (o1.below ((Below.refl w1.heap.size w1).alloc (Nat.le_refl _) _)) b2.size w1.heap.size l (RowAt.of (heap_alloc_new w1 _)) hn ty
    exact ⟨a1, c1, w1, a2, c2, w2, e1, b1, e2, o2, b2.grown g2 b2.size (fun k hk => (o1.lt k hk).1)⟩
  · have f1 := (ownSS_fresh w w.heap.size (Nat.le_refl _)).below ((Below.refl (w.alloc (.cells #[] 9)).heap.size (w.alloc (.cells #[] 9))).alloc (Nat.le_refl _) (.cells #[.string (strB l)] 9))
    obtain ⟨a1, c1, w1, e1, o1, g1⟩ := copy_row _ w.heap.size w.heap.size f1 bES.size A cA ws (hy.below bES) (by omega) ty
    have b1 : Below w.heap.size w w1 := bES.grown g1 bES.size (fun k hk => by injection hk with hk; omega)
    have hr : RowAt w1 (w.heap.size + 1) 9 [.string (strB l)] := by
      obtain ⟨cur, h1, h2⟩ := RowAt.of (heap_alloc_new (w.alloc (.cells #[] 9)) (.cells #[.string (strB l)] 9))
      refine ⟨cur, (g1.block _ (by simp) (by simp)).trans ?_, h2⟩
      simpa using h1
    obtain ⟨a2, c2, w2, e2, o2, g2⟩ := push_row w1 w.heap.size _ ws o1 b1.size (w.heap.size + 1) l hr hn ty
    exact ⟨a1, c1, w1, a2, c2, w2, e1, e2, o2, b1.grown g2 b1.size (fun k hk => (o1.lt k hk).1)⟩
  · have f1 : OwnSS ((w.alloc (.cells #[.string (strB l)] 9)).alloc (.cells #[] 9)) w.heap.size (.slice (some ⟨w.heap.size + 1, 0, none⟩) 0 0) [] := by
      have := ownSS_fresh (w.alloc (.cells #[.string (strB l)] 9)) w.heap.size bS.size
      simpa using this
    obtain ⟨a1, c1, w1, e1, o1, g1⟩ := copy_row _ w.heap.size (w.heap.size + 1) f1 bSE.size A cA ws (hy.below bSE) (by omega) ty
    have b1 : Below w.heap.size w w1 := bSE.grown g1 bSE.size (fun k hk => by injection hk with hk; omega)
    have hr : RowAt w1 w.heap.size 9 [.string (strB l)] := by
      obtain ⟨cur, h1, h2⟩ := RowAt.of (heap_alloc_new w (.cells #[.string (strB l)] 9))
      exact ⟨cur, (g1.block _ (by simp; omega) (by simp)).trans ((Below.heap_alloc _ _ _ (by simp)).trans h1), h2⟩
    obtain ⟨a2, c2, w2, e2, o2, g2⟩ := push_row w1 w.heap.size _ ws o1 b1.size w.heap.size l hr hn ty
    exact ⟨a1, c1, w1, a2, c2, w2, e1, e2, o2, b1.grown g2 b1.size (fun k hk => (o1.lt k hk).1)⟩

/-- The same behind a draw. -/
theorem copy_push_drew (w : World) (A : Option Addr) (cA : Nat) (ws : List (List Nat)) (hy : SSP w A cA ws) (hn : ws.length < 100000) (l : List Nat) (ty : TypeId) :
    (∃ a1 c1 w1 a2 c2 w2, ApR 38 ty (.slice (some ⟨w.heap.size, 0, none⟩) 0 0) (.slice A ws.length cA) (w.alloc (.cells #[] 9)).drew = .ok (.value (.slice a1 ws.length c1)) w1 ∧ Below w.heap.size w.drew w1 ∧
      ApR 38 ty (.slice a1 ws.length c1) (.slice (some ⟨w1.heap.size, 0, none⟩) 1 1) (w1.alloc (.cells #[.string (strB l)] 9)) = .ok (.value (.slice a2 (ws.length + 1) c2)) w2 ∧ OwnSS w2 w.heap.size (.slice a2 (ws.length + 1) c2) (ws ++ [l]) ∧ Below w.heap.size w.drew w2) ∧
    (∃ a1 c1 w1 a2 c2 w2, ApR 38 ty (.slice (some ⟨w.heap.size, 0, none⟩) 0 0) (.slice A ws.length cA) ((w.alloc (.cells #[] 9)).alloc (.cells #[.string (strB l)] 9)).drew = .ok (.value (.slice a1 ws.length c1)) w1 ∧
      ApR 38 ty (.slice a1 ws.length c1) (.slice (some ⟨w.heap.size + 1, 0, none⟩) 1 1) w1 = .ok (.value (.slice a2 (ws.length + 1) c2)) w2 ∧ OwnSS w2 w.heap.size (.slice a2 (ws.length + 1) c2) (ws ++ [l]) ∧ Below w.heap.size w.drew w2) ∧
    (∃ a1 c1 w1 a2 c2 w2, ApR 38 ty (.slice (some ⟨w.heap.size + 1, 0, none⟩) 0 0) (.slice A ws.length cA) ((w.alloc (.cells #[.string (strB l)] 9)).alloc (.cells #[] 9)).drew = .ok (.value (.slice a1 ws.length c1)) w1 ∧
      ApR 38 ty (.slice a1 ws.length c1) (.slice (some ⟨w.heap.size, 0, none⟩) 1 1) w1 = .ok (.value (.slice a2 (ws.length + 1) c2)) w2 ∧ OwnSS w2 w.heap.size (.slice a2 (ws.length + 1) c2) (ws ++ [l]) ∧ Below w.heap.size w.drew w2) :=
  copy_push w.drew A cA ws (hy.below (Below.refl _ _).drew) hn l ty

theorem TlV.set0 {w : World} {t : Nat} {f : List Nat} {v : Value} (h : TlV w t f v) (f' : List Nat) : TlV (w.setCell ⟨t, 0, none⟩ (.string (strB f'))) t f' v := by
  unfold TlV at *
  rw [heap_setCell_same w t 0 _ _ _ h]
  rfl
theorem upd_setc (w : World) (t o : Nat) (v : Value) : Upd t w (w.setCell ⟨t, o, none⟩ v) :=
  ⟨rfl, rfl, rfl, by simp [World.setCell], fun k hk => heap_setCell_other _ _ _ _ hk⟩
theorem Upd.two {t : Nat} {a b c : World} (h : Upd t a b) (k : Upd t b c) : Upd t a c :=
  ⟨k.os.trans h.os, k.tape.trans h.tape, k.output.trans h.output, k.size.trans h.size, fun i hi => (k.block i hi).trans (h.block i hi)⟩
/-- A whole tale is stored, a cell after the other. -/
theorem TlV.whole {w : World} {t : Nat} {f : List Nat} {v : Value} (h : TlV w t f v) (f' : List Nat) :
    w.cell? ⟨t, 0, none⟩ = some (.string (strB f)) ∧ w.frozen? ⟨t, 0, none⟩ = false ∧ (w.setCell ⟨t, 0, none⟩ (.string (strB f'))).cell? ⟨t, 1, none⟩ = some v ∧ (w.setCell ⟨t, 0, none⟩ (.string (strB f'))).frozen? ⟨t, 1, none⟩ = false ∧
      Upd t w ((w.setCell ⟨t, 0, none⟩ (.string (strB f'))).setCell ⟨t, 1, none⟩ (.slice none 0 0)) ∧ TlV ((w.setCell ⟨t, 0, none⟩ (.string (strB f'))).setCell ⟨t, 1, none⟩ (.slice none 0 0)) t f' (.slice none 0 0) :=
  ⟨h.cells.1, h.cells.2.2.1, (h.set0 f').cells.2.1, (h.set0 f').cells.2.2.2, (upd_setc w t 0 _).two (upd_setc _ t 1 _), (h.set0 f').set _⟩

section
variable {w0 w w2 : World} {A : World → (Nat → Prop) → Prop} {L : Nat → Prop} {base t : Nat} {f : List Nat} {ws ws' : List (List Nat)}

/-- A new row in the words' place. -/
theorem Pair.renewed (sA : Stays A) (h : Pair w0 w A (atTl base t f ws) L) (hbase : base ≤ w0.heap.size) (hb : Below w.heap.size w w2) {a' : Option Addr} {n' c' : Nat} (ho : OwnSS w2 w.heap.size (.slice a' n' c') ws') :
    Pair w0 (w2.setCell ⟨t, 1, none⟩ (.slice a' n' c')) A (atTl base t f ws') L ∧ ∀ k, L k → (w2.setCell ⟨t, 1, none⟩ (.slice a' n' c')).heap[k]? = w.heap[k]? := by
  have hlow := (Pair.low h).size
  refine h.step sA fun R ⟨v, q1, q2, q3, q4, q5⟩ => ?_
  have htl := q5 t q3
  have htv : TlV w2 t f v := (hb.block t htl).trans q1
  have hkeep : Keep R w w2 := (Keep.refl R w).of_below hb
  have hown : ∀ k, (Value.slice a' n' c').ownBlock = some k → w.heap.size ≤ k ∧ k < w2.heap.size := fun k hk => ho.lt k hk
  refine ⟨⟨_, htv.set _, ?_, .inl q3, fun k hk => ⟨.inr ⟨(hown k hk).1, by simpa [World.setCell] using (hown k hk).2⟩, by have := (hown k hk).1; omega⟩, fun k hk => ?_⟩, hkeep.setCell (fun _ => q3) _⟩
  · exact ownsRow_same (ownsRow_base ho (fun k hk => by have := (hown k hk).1; omega)) (fun k hk => heap_setCell_other _ _ _ _ (fun e => by have := (hown k hk).1; simp only at e; omega))
  · rcases hk with hk | hk
    · have := q5 k hk
      have := hkeep.size
      simp [World.setCell]
      omega
    · exact hk.2
end

end Go.Proofs.Ytipikkniookanaa
