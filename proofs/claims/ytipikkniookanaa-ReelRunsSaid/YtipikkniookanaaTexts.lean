/- Rows of texts. -/
import Derived.Test.YtipikkniookanaaMkRead2
namespace Go.Proofs.Ytipikkniookanaa
set_option maxRecDepth 100000
open Go.RowKit

section
variable (ev : Operand → Value) (d : Option Tmp) (ty : TypeId) (pos : String) (af : Array Edge) (gd : Option (Nat × Bool)) (w : World)
theorem apSS (x y : Operand) : (execOp ev ⟨d, .call { callee := .builtin .append, args := #[x, y], argTypes := #[38, 38] }, ty, pos, af, gd⟩).run Try.prog w = ApR 38 ty (ev x) (ev y) w := by simp only [execOp, resolve, invoke, builtin, ApR, Sem.run_bind, Sem.run_pure, Result.andThen_ok, List.map_toArray, List.map_cons, List.map_nil]
end

theorem infoS : (Try.prog.info? 9).map (fun i => (i.zero, i.size, i.bytes)) = some (some (.string ByteArray.empty), 1, 16) := by kernel_rfl

def txt (l : List Nat) : Value := .string (strB l)

/-- A slice reads as these bytes, as texts. -/
structure SSP (w : World) (a : Option Addr) (cap : Nat) (ls : List (List Nat)) : Prop where
  cap : ls.length ≤ cap
  len : ls.length ≤ 1000000
  cell : ls ≠ [] → ∃ b o, a = some ⟨b, o, none⟩ ∧ b < w.heap.size ∧ ∀ (j : Nat) (l : List Nat), ls[j]? = some l → w.cell? ⟨b, o + j, none⟩ = some (.string (strB l))

theorem SSP.below {w w' : World} {a : Option Addr} {cap : Nat} {ls : List (List Nat)} (h : SSP w a cap ls) (hb : Below w.heap.size w w') : SSP w' a cap ls := by
  refine ⟨h.cap, h.len, fun hne => ?_⟩
  obtain ⟨b, o, e, hlt, hc⟩ := h.cell hne
  exact ⟨b, o, e, Nat.lt_of_lt_of_le hlt hb.size, fun j l hj => (hb.cell (p := ⟨b, o + j, none⟩) hlt).trans (hc j l hj)⟩

/-- A row of texts of the call's own. -/
def OwnSS (w : World) (base : Nat) (v : Value) (ls : List (List Nat)) : Prop := w.ownsRow base 9 1 v ls.length (ls.map txt)

theorem ownSS_fresh (w : World) (base : Nat) (hb : base ≤ w.heap.size) : OwnSS (w.alloc (.cells #[] 9)) base (.slice (some ⟨w.heap.size, 0, none⟩) 0 0) [] := World.ownsRow_made w #[] 0 hb (Nat.zero_le _) (by simp)

theorem OwnSS.lists {w : World} {base : Nat} {v : Value} {ls : List (List Nat)} (h : OwnSS w base v ls) (hn : ls.length ≤ 1000000) : ∃ a cap, v = .slice a ls.length cap ∧ SSP w a cap ls := by
  rcases h.2 with ⟨rfl, h0⟩ | ⟨g, cap, cur, rfl, h1, h2, h3, h4, h5, h6⟩
  · have := List.eq_nil_of_length_eq_zero h0
    subst this
    exact ⟨none, 0, rfl, by simp, by simp, fun h => absurd rfl h⟩
  · refine ⟨_, cap, rfl, h3, hn, fun _ => ⟨g, 0, rfl, (Array.getElem?_eq_some_iff.1 h2).1, fun j l hj => ?_⟩⟩
    rw [Nat.zero_add]
    exact (rowAt_own h (g := g) rfl).cell (by rw [List.getElem?_map, hj]; rfl)

theorem OwnSS.below {w w' : World} {base : Nat} {v : Value} {ls : List (List Nat)} (h : OwnSS w base v ls) (hb : Below w.heap.size w w') : OwnSS w' base v ls := ownsRow_same h (fun k hk => hb.block k (h.lt k hk).2)

/-- One text more. -/
theorem OwnSS.push {w : World} {base : Nat} {v : Value} {ls : List (List Nat)} (h : OwnSS w base v ls) (hbase : base ≤ w.heap.size) (l : List Nat) (hn : ls.length < 100000) (ty : TypeId) :
    ∃ a' n' c' w', ApR 38 ty v (.slice (some ⟨w.heap.size, 0, none⟩) 1 1) (w.alloc (.cells #[.string (strB l)] 9)) = .ok (.value (.slice a' n' c')) w' ∧ OwnSS w' base (.slice a' n' c') (ls ++ [l]) ∧ Below base w w' := by
  have hW : Below w.heap.size w (w.alloc (.cells #[.string (strB l)] 9)) := (Below.refl w.heap.size w).alloc (Nat.le_refl _) _
  have ho1 : (w.alloc (.cells #[.string (strB l)] 9)).ownsRow 0 9 1 v ls.length (ls.map txt) := ownsRow_base (h.below hW) (fun k _ => Nat.zero_le k)
  have hnew : RowAt (w.alloc (.cells #[.string (strB l)] 9)) w.heap.size 9 [.string (strB l)] := RowAt.of (heap_alloc_new w _)
  obtain ⟨v', w', h1, h2, h3, h4⟩ := ap_own 38 ty 9 1 16 _ (by omega) infoS Try.underlying38 rfl v ls.length (ls.map txt) ho1 w.heap.size 1 1 9 _ hnew rfl (fun u hu => by simp at hu; subst hu; rfl) (by omega) (by omega)
  have hb' : ∀ k, v'.ownBlock = some k → base ≤ k := fun k hk => by
    rcases h4 k hk with h' | h'
    · exact (h.lt k h').1
    · have := hW.size; omega
  obtain ⟨a', c', rfl, _⟩ := own_slice h2
  refine ⟨a', _, c', w', h1, ?_, (hW.mono hbase).grown h3 (Nat.le_trans hbase hW.size) (fun k hk => (h.lt k hk).1)⟩
  unfold OwnSS
  rw [List.length_append, List.map_append]
  exact ownsRow_base h2 hb'

end Go.Proofs.Ytipikkniookanaa
