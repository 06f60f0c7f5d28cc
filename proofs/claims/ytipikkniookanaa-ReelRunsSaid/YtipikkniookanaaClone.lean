/- What Clone of package slices answers, at bytes. -/
import Derived.Test.YtipikkniookanaaOwn
namespace Go.Proofs.Ytipikkniookanaa
set_option maxRecDepth 100000
open Go.ChangeShapes Go.WideShapes Go.ChangeAt Go.RowKit

set_option maxHeartbeats 2000000 in
theorem clone_any (a : Option Addr) (cap : Nat) (l : List Nat) (w : World) (h : BytesP w a cap l) (hl : l.length ≤ 1000000) : Calls Try.prog 74 #[.slice a l.length cap] w (OwnPost l w) := by
  have q := fun (w : World) (a : Option Addr) (n c n' c' : Nat) => Lib.run_eql_slice_nil (P := Try.prog) w 24 5 a n c n' c' Try.underlying24
  have H := Lib.hid h
  cases a with
  | none =>
    have hy0 : l = [] := by
      cases l with
      | nil => rfl
      | cons y r =>
        obtain ⟨b, o, e, _⟩ := h.cell (by simp)
        cases e
    subst hy0
    clear h
    go_enter Try.func74, Try.ntmps74
    go_wp2_with fail
    go_ret
    exact ⟨_, rfl, own_nil _ _, Below.refl _ _⟩
  | some ad =>
    have OE := Lib.hid (own_fresh w w.heap.size (Nat.le_refl _))
    have bw := (Below.refl w.heap.size w).alloc (Nat.le_refl _) (.cells #[] 5)
    have G1 := Lib.hid (H.out.below bw)
    clear h
    go_enter Try.func74, Try.ntmps74
    go_wp2_with (at_builtin; go_must (refine wpList_append_bytes rfl _ _ rfl w.heap.size (.slice (some ⟨w.heap.size, 0, none⟩) 0 0) [] l rfl OE.out (some ad) cap rfl G1.out (by simp; omega) bw.size ?_))
    rintro v2 w2 o2 g2
    have bw2 := bw.grown g2 bw.size OE.out.row
    go_wp2_with fail
    go_ret
    exact ⟨_, rfl, o2, bw2⟩

end Go.Proofs.Ytipikkniookanaa
