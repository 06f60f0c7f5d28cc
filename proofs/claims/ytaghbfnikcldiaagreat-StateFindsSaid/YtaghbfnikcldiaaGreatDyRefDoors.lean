/- What the document's Doors answers. -/
import Derived.Test.YtaghbfnikcldiaaGreatDyDoors
namespace Go.Proofs.YtaghbfnikcldiaaGreat
set_option maxRecDepth 100000
open Go.RowKit

theorem below_new (w : World) (o : Obj) : Below w.heap.size w (w.alloc o) := (Below.refl _ _).alloc (Nat.le_refl _) o
theorem Tryz.info3 : (Tryz.prog.info? 3).map (fun i => (i.zero, i.size, i.bytes)) = some (some (.int .i64 0), 1, 8) := by kernel_rfl

theorem own_empty (w : World) : OwnI (w.alloc (.cells #[] 3)) w.heap.size (.slice (some ⟨w.heap.size, 0, none⟩) 0 0) [] := 
  ⟨rfl, .inr ⟨w.heap.size, 0, #[], rfl, Nat.le_refl _, heap_alloc_new w _, by simp, by unfold maxLen; omega, rfl, rfl⟩⟩

theorem OwnI.block {w : World} {base : Nat} {v : Value} {ls : List Int} (h : OwnI w base v ls) : ∀ k, v.ownBlock = some k → base ≤ k := by
  intro k hk
  rcases h.2 with ⟨rfl, _⟩ | ⟨g, cap, cur, rfl, h1, _⟩
  · simp [Value.ownBlock] at hk
  · simp [Value.ownBlock] at hk
    omega

theorem doors_none (l : List Int) (h : l.all doorB = false) : doorsV l = [] ∧ doorsE l = 31 := by
  have := doorsV_bad h
  exact ⟨this, by unfold doorsE; rw [this]; rfl⟩

theorem doors_some {l : List Int} (h : l.all doorB = true) (hne : 0 < l.length) : doorsV l = ticksOf l 96 ∧ doorsE l = 0 := by
  have h1 := doorsV_good h
  refine ⟨h1, ?_⟩
  unfold doorsE
  rw [h1]
  have hm : l[0] ∈ ticksOf l 96 := mem_ticksOf.2 ⟨List.getElem_mem hne, by have := all_door.1 h _ (List.getElem_mem hne); exact ⟨this.1, by simpa using this.2⟩⟩
  have : ticksOf l 96 ≠ [] := fun e => by rw [e] at hm; simp at hm
  rw [if_neg (by simpa using this)]

end Go.Proofs.YtaghbfnikcldiaaGreat
