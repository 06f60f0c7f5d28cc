/- A cell that is answered. -/
import Derived.Test.YtipikkniookanaaGet
namespace Go.Proofs.Ytipikkniookanaa
open Go.RowKit

attribute [local go_sem ↓] ld26 ld66 st26 st66 bx26 al26 al66 bd26 bd66 bs61 bs48 mk48 eq26 ap61 ap48 ap49 cp46 cp48
attribute [local go_sem] bx_agg al_cell al_wr bd_zero bd_one bd_two bd_nine

theorem putL_one {cur : List Value} {o : Nat} (v : Value) (ho : o < cur.length) : putL cur o [v] = cur.set o v := by
  rw [← putL_step v [] ho]
  simp [putL]

theorem RowAt.setCell {w : World} {b : Nat} {T : TypeId} {xs : List Value} (h : RowAt w b T xs) {o : Nat} (v : Value) (ho : o < xs.length) : RowAt (w.setCell ⟨b, o, none⟩ v) b T (xs.set o v) := by
  have := (h.put (o := o) (vs := [v]) (by simp; omega)).1
  rwa [putL_one v ho] at this

/-- A cell is answered; all that was there stays. -/
def CellPost (c : List Nat) (w : World) (e : Ending) (w' : World) : Prop := e = .returned (.agg (arr c)) ∧ Below w.heap.size w w'

theorem results_cell_alone {fn : Func} {p : Tmp} {ty : TypeId} (h : fn.results = #[.cell p ty]) (tmps : Array Value) (w : World) (g : Nat) (v : Value)
    (hp : tmps.getD p undef = .pointer (some ⟨g, 0, none⟩)) (hl : LdR ty (.pointer (some ⟨g, 0, none⟩)) w = .ok (.value v) w) :
    (results fn tmps).run Try.prog w = .ok v w := by
  have hp' : tmps[p]?.getD undef = .pointer (some ⟨g, 0, none⟩) := by simpa using hp
  simp [results, h, hp', asAddr, loadVar_of hl]

end Go.Proofs.Ytipikkniookanaa
