/- What Read of package marks answers. -/
import Derived.Test.YtipikkniookanaaMkPut
import Derived.Test.YtipikkniookanaaMkTop
import Derived.Test.YtipikkniookanaaClone
namespace Go.Proofs.Ytipikkniookanaa
set_option maxRecDepth 100000
open Go.RowKit

section
variable (ev : Operand → Value) (d : Option Tmp) (ty : TypeId) (pos : String) (af : Array Edge) (gd : Option (Nat × Bool)) (w : World)
theorem apLL (x y : Operand) : (execOp ev ⟨d, .call { callee := .builtin .append, args := #[x, y], argTypes := #[25, 25] }, ty, pos, af, gd⟩).run Try.prog w = ApR 25 ty (ev x) (ev y) w := by simp only [execOp, resolve, invoke, builtin, ApR, Sem.run_bind, Sem.run_pure, Result.andThen_ok, List.map_toArray, List.map_cons, List.map_nil]
end

attribute [local go_sem ↓] ld26 ld66 st26 st66 bx26 al26 al66 bd26 bd66 bs61 bs48 mk48 eq26 ap61 ap48 ap49 cp46 cp48 apLL
attribute [local go_sem] bx_agg al_cell al_wr bd_zero bd_one bd_two bd_nine

theorem infoB : (Try.prog.info? 24).map (fun i => (i.zero, i.size, i.bytes)) = some (some (.slice none 0 0), 1, 24) := by kernel_rfl

/-- A slice reads as these lists of bytes. -/
structure LLP (w : World) (a : Option Addr) (cap : Nat) (ls : List (List Nat)) : Prop where
  cap : ls.length ≤ cap
  len : ls.length ≤ 1000000
  cell : ls ≠ [] → ∃ b o, a = some ⟨b, o, none⟩ ∧ b < w.heap.size ∧ ∀ (j : Nat) (l : List Nat), ls[j]? = some l → ∃ a' c', w.cell? ⟨b, o + j, none⟩ = some (.slice a' l.length c') ∧ BytesP w a' c' l

theorem LLP.below {w w' : World} {a : Option Addr} {cap : Nat} {ls : List (List Nat)} (h : LLP w a cap ls) (hb : Below w.heap.size w w') : LLP w' a cap ls := by
  refine ⟨h.cap, h.len, fun hne => ?_⟩
  obtain ⟨b, o, e, hlt, hc⟩ := h.cell hne
  refine ⟨b, o, e, Nat.lt_of_lt_of_le hlt hb.size, fun j l hj => ?_⟩
  obtain ⟨a', c', h1, h2⟩ := hc j l hj
  exact ⟨a', c', (hb.cell (p := ⟨b, o + j, none⟩) hlt).trans h1, h2.below hb⟩

/-- A row of slices of bytes of the call's own. -/
def OwnLL (w : World) (base : Nat) (v : Value) (ls : List (List Nat)) : Prop :=
  ∃ vs : List Value, vs.length = ls.length ∧ w.ownsRow base 24 1 v ls.length vs ∧ ∀ (j : Nat) (l : List Nat), ls[j]? = some l → ∃ b o c, vs[j]? = some (.slice (some ⟨b, o, none⟩) l.length c) ∧ v.ownBlock ≠ some b ∧ b < w.heap.size ∧ BytesP w (some ⟨b, o, none⟩) c l

theorem ownLL_nil (w : World) (base : Nat) : OwnLL w base (.slice none 0 0) [] := ⟨[], rfl, World.ownsRow_nil w base _ 1, fun j l h => by simp at h⟩

theorem OwnLL.lists {w : World} {base : Nat} {v : Value} {ls : List (List Nat)} (h : OwnLL w base v ls) (hn : ls.length ≤ 1000000) : ∃ a cap, v = .slice a ls.length cap ∧ LLP w a cap ls := by
  obtain ⟨vs, hl, ho, hc⟩ := h
  rcases ho.2 with ⟨rfl, h0⟩ | ⟨g, cap, cur, rfl, h1, h2, h3, h4, h5, h6⟩
  · have := List.eq_nil_of_length_eq_zero h0
    subst this
    exact ⟨none, 0, rfl, by simp, by simp, fun h => absurd rfl h⟩
  · refine ⟨_, cap, rfl, h3, hn, fun _ => ⟨g, 0, rfl, (Array.getElem?_eq_some_iff.1 h2).1, fun j l hj => ?_⟩⟩
    obtain ⟨b, o, c, hv, _, _, hB⟩ := hc j l hj
    refine ⟨_, c, ?_, hB⟩
    rw [Nat.zero_add]
    exact (rowAt_own ho (g := g) rfl).cell hv

theorem OwnLL.below {w w' : World} {base : Nat} {v : Value} {ls : List (List Nat)} (h : OwnLL w base v ls) (hb : Below w.heap.size w w') : OwnLL w' base v ls := by
  obtain ⟨vs, hl, ho, hc⟩ := h
  refine ⟨vs, hl, ownsRow_same ho (fun k hk => hb.block k (ho.lt k hk).2), fun j l hj => ?_⟩
  obtain ⟨b, o, c, h1, h2, h3, h4⟩ := hc j l hj
  exact ⟨b, o, c, h1, h2, Nat.lt_of_lt_of_le h3 hb.size, h4.below hb⟩

theorem ownsRow_base {w : World} {base base' : Nat} {e : TypeId} {size : Nat} {v : Value} {n : Nat} {xs : List Value} (h : w.ownsRow base e size v n xs) (hb : ∀ k, v.ownBlock = some k → base' ≤ k) : w.ownsRow base' e size v n xs := by
  refine ⟨h.1, ?_⟩
  rcases h.2 with h1 | ⟨g, cap, cur, rfl, _, h2⟩
  · exact .inl h1
  · exact .inr ⟨g, cap, cur, rfl, hb g rfl, h2⟩

/-- One list more. -/
theorem OwnLL.push {w : World} {base : Nat} {v : Value} {ls : List (List Nat)} (h : OwnLL w base v ls) (hbase : base ≤ w.heap.size) {l : List Nat} {b o c : Nat} (hB : BytesP w (some ⟨b, o, none⟩) c l) (hv : v.ownBlock ≠ some b) (hlt : b < w.heap.size) (hn : ls.length < 100000) (ty : TypeId) :
    ∃ a' n' c' w', ApR 25 ty v (.slice (some ⟨w.heap.size, 0, none⟩) 1 1) (w.alloc (.cells #[.slice (some ⟨b, o, none⟩) l.length c] 24)) = .ok (.value (.slice a' n' c')) w' ∧ OwnLL w' base (.slice a' n' c') (ls ++ [l]) ∧ Below base w w' := by
  obtain ⟨vs, hl, ho, hc⟩ := h
  have hW : Below w.heap.size w (w.alloc (.cells #[.slice (some ⟨b, o, none⟩) l.length c] 24)) := (Below.refl w.heap.size w).alloc (Nat.le_refl _) _
  have ho1 : (w.alloc (.cells #[.slice (some ⟨b, o, none⟩) l.length c] 24)).ownsRow 0 24 1 v ls.length vs := ownsRow_base (ownsRow_same ho (fun k hk => hW.block k (ho.lt k hk).2)) (fun k _ => Nat.zero_le k)
  have hnew : RowAt (w.alloc (.cells #[.slice (some ⟨b, o, none⟩) l.length c] 24)) w.heap.size 24 [.slice (some ⟨b, o, none⟩) l.length c] := RowAt.of (heap_alloc_new w _)
  obtain ⟨v', w', h1, h2, h3, h4⟩ := ap_own 25 ty 24 1 24 _ (by omega) infoB Try.underlying25 rfl v ls.length vs ho1 w.heap.size 1 1 24 _ hnew rfl (fun u hu => by simp at hu; subst hu; rfl) (by omega) (by omega)
  have hb' : ∀ k, v'.ownBlock = some k → base ≤ k := fun k hk => by
    rcases h4 k hk with h | h
    · exact (ho.lt k h).1
    · have := hW.size; omega
  obtain ⟨a', c', rfl, _⟩ := own_slice h2
  refine ⟨a', _, c', w', h1, ⟨vs ++ [.slice (some ⟨b, o, none⟩) l.length c], by simp [hl], ?_, fun j m hj => ?_⟩, (hW.mono hbase).grown h3 (Nat.le_trans hbase hW.size) (fun k hk => (ho.lt k hk).1)⟩
  · rw [List.length_append]
    exact ownsRow_base h2 hb'
  · have hkeep : ∀ k, k < w.heap.size → v.ownBlock ≠ some k → w'.heap[k]? = w.heap[k]? := fun k hk hne => (h3.block k (Nat.lt_of_lt_of_le hk hW.size) (fun e => hne e.symm)).trans (hW.block k hk)
    have hsz : w.heap.size ≤ w'.heap.size := Nat.le_trans hW.size h3.size
    have hfar : ∀ k, k < w.heap.size → v.ownBlock ≠ some k → (Value.slice a' (ls.length + 1) c').ownBlock ≠ some k := fun k hk hne e => by
      rcases h4 k e with h | h
      · exact hne h
      · have := hW.size; omega
    have hbytes : ∀ {k q d : Nat} {x : List Nat}, BytesP w (some ⟨k, q, none⟩) d x → k < w.heap.size → v.ownBlock ≠ some k → BytesP w' (some ⟨k, q, none⟩) d x := fun {k q d x} hx hk hne => by
      refine ⟨hx.cap, hx.len, hx.byte, fun hxn => ?_⟩
      obtain ⟨b2, o2, e, h5, h6⟩ := hx.cell hxn
      injection e with e
      injection e with e1 e2
      subst e1 e2
      exact ⟨_, _, rfl, Nat.lt_of_lt_of_le hk hsz, fun i y hy => (World.cell?_of_block (a := ⟨k, q + i, none⟩) (hkeep k hk hne)).trans (h6 i y hy)⟩
    by_cases hjl : j < ls.length
    · rw [List.getElem?_append_left hjl] at hj
      obtain ⟨b2, o2, c2, e1, e2, e3, e4⟩ := hc j m hj
      exact ⟨b2, o2, c2, by rw [List.getElem?_append_left (by omega)]; exact e1, hfar b2 e3 e2, Nat.lt_of_lt_of_le e3 hsz, hbytes e4 e3 e2⟩
    · rw [List.getElem?_append_right (by omega)] at hj
      have hj0 : j - ls.length = 0 := by
        have := (List.getElem?_eq_some_iff.1 hj).1
        simp at this
        omega
      rw [hj0] at hj
      simp at hj
      subst hj
      exact ⟨b, o, c, by rw [List.getElem?_append_right (by omega), hl, hj0]; rfl, hfar b hlt hv, Nat.lt_of_lt_of_le hlt hsz, hbytes hB hlt hv⟩

/-- A round and lists of bytes in memory of the call's own are answered; all that was there stays. -/
def ReadPost (r : Nat × List (List Nat)) (w : World) (e : Ending) (w' : World) : Prop := ∃ a cap, e = .returned (.tuple #[.int .u64 (r.1 : Int), .slice a r.2.length cap]) ∧ LLP w' a cap r.2 ∧ Below w.heap.size w w'

end Go.Proofs.Ytipikkniookanaa
