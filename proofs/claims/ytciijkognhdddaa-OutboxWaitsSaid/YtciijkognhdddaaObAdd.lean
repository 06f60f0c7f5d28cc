/- What own, Add and Find of package outbox answer. -/
import Derived.Test.YtciijkognhdddaaObRight
import Derived.Deep.RegionLaw
namespace Go.Proofs.Ytciijkognhdddaa
set_option maxRecDepth 100000
open Go.RowKit Go.ChangeShapes Go.WideShapes Go.ChangeAt
attribute [local go_sem ↓] ldEf stEf alEf bxEf eqEf bdEf bsEf
attribute [local go_sem] al_ef bx_ef st_new bd_ef bs_ef bs_ef0

theorem OwnS.alloc {α : Type} {L : Lay α} {w : World} {base : Nat} {v : Value} {l : List α} (h : OwnS L w base v l) (o : Obj) : OwnS L (w.alloc o) base v l := h.below ((Below.refl _ _).alloc (Nat.le_refl _) o)
theorem SlP.alloc {α : Type} {L : Lay α} {w : World} {a : Option Addr} {cap : Nat} {l : List α} (h : SlP L w a cap l) (o : Obj) : SlP L (w.alloc o) a cap l := h.below ((Below.refl _ _).alloc (Nat.le_refl _) o)
theorem Row.alloc {w : World} {g : Nat} {T : TypeId} {cs : Array Value} (h : Row w g T cs) (o : Obj) : Row (w.alloc o) g T cs := h.below ((Below.refl _ _).alloc (Nat.le_refl _) o)

theorem ef_one (W : World) (n : Nat) (hn : W.heap.size = n) (y : Ef) : SlP LE (W.alloc (.cells (efC y) 27)) (some ⟨n, 0, none⟩) 1 [y] := hn ▸ SlP.one LE_ok W y

/-- The same in memory of the call's own. -/
theorem own_any (a : Option Addr) (cap : Nat) (l : List Ef) (w : World) (h : SlP LE w a cap l) (hl : l.length ≤ 1000000) : Calls Try.prog 32 #[.slice a l.length cap] w (OwnSs LE l w) := by
  have H := Lib.hid h
  clear h
  go_enter Try.func32, Try.ntmps32
  go_wp2_with (at_builtin; go_must (refine wpList_append_sl LE_ok rfl _ _ rfl w.heap.size (.slice none 0 0) [] l rfl (OwnS.nil _ _) a cap rfl H.out (by simp; omega) (Nat.le_refl _) ?_))
  rintro v2 w2 o2 g2
  have b2 := (Below.refl w.heap.size w).grown g2 (Nat.le_refl _) (OwnS.nil (L := LE) w w.heap.size).row
  obtain ⟨a2, c2, rfl⟩ := o2.shape
  go_wp2_with fail
  go_ret
  exact ⟨_, rfl, o2, b2⟩

/-- An effect that came in, in a variable; others, in a slice; all that was there stays. -/
structure AddI (w : World) (a : Option Addr) (cap : Nat) (l : List Ef) (g : Nat) (e : Ef) (W : World) : Prop where
  row : Row W g 27 (efC e)
  sl : SlP LE W a cap l
  low : Below w.heap.size w W
theorem AddI.below {w W W' : World} {a : Option Addr} {cap : Nat} {l : List Ef} {g : Nat} {e : Ef} (h : AddI w a cap l g e W) (b : Below W.heap.size W W') : AddI w a cap l g e W' := ⟨h.row.below b, h.sl.below b, h.low.trans (b.mono h.low.size)⟩
theorem AddI.alloc {w W : World} {a : Option Addr} {cap : Nat} {l : List Ef} {g : Nat} {e : Ef} (h : AddI w a cap l g e W) (o : Obj) : AddI w a cap l g e (W.alloc o) := h.below ((Below.refl _ _).alloc (Nat.le_refl _) o)
theorem AddI.drew {w W : World} {a : Option Addr} {cap : Nat} {l : List Ef} {g : Nat} {e : Ef} (h : AddI w a cap l g e W) : AddI w a cap l g e W.drew := h.below (Below.refl _ _).drew
theorem AddI.begin {w : World} {a : Option Addr} {cap : Nat} {l : List Ef} (h : SlP LE w a cap l) (e : Ef) : AddI w a cap l w.heap.size e (w.alloc (.cells (efC e) 27)) := ⟨Row.new _ _ _, h.alloc _, (Below.refl _ _).alloc (Nat.le_refl _) _⟩

def addFV (l : List Ef) (e : Ef) : List Ef := if followB l e then l ++ [e] else []
def addFN (l : List Ef) (e : Ef) : Int := if followB l e then 0 else 131
theorem addF_of {l : List Ef} (h : rightE l = true) (e : Ef) : addFV l e = addEV l e ∧ addFN l e = addEN l e := by
  unfold addFV addFN addEV addEN
  rw [follow_add h]
  exact ⟨rfl, rfl⟩

set_option maxHeartbeats 4000000 in
theorem add_any (a : Option Addr) (cap : Nat) (l : List Ef) (e : Ef) (w : World) (h : SlP LE w a cap l) (hs : e.order.size ≤ maxLen) (hl : l.length ≤ 1000000) :
    Calls Try.prog 9 #[.slice a l.length cap, efV e] w (OwnSE LE (addFV l e) (addFN l e) w) := by
  have HV := Lib.hid (show addFV l e = if followB l e then l ++ [e] else [] from rfl)
  have HN := Lib.hid (show addFN l e = if followB l e then 0 else 131 from rfl)
  generalize addFV l e = V at *
  generalize addFN l e = N at *
  have K0 := Lib.hid (AddI.begin h e)
  have ld := ld_row K0.out.row
  have CF := Lib.hid (follow_any a cap l e _ K0.out.sl hs)
  clear h
  go_enter Try.func9, Try.ntmps9
  go_wp2_with fail
  generalize w.alloc (Obj.cells (efC e) 27) = W0 at *
  refine CF.out.mono ?_
  rintro x W1 ⟨rfl, b1⟩
  have K1 := Lib.hid (K0.out.below b1)
  clear ld CF K0 b1
  generalize hf : followB l e = F at *
  cases F with
  | false =>
    go_wp2_with fail
    go_ret2
    exact ⟨_, by rw [HN.out]; rfl, by rw [HV.out]; exact OwnS.nil _ _, K1.out.low⟩
  | true =>
    have CO : Hid (∀ W, AddI w a cap l w.heap.size e W → Calls Try.prog 32 #[.slice a l.length cap] W (OwnSs LE l W)) := Lib.hid (fun W hW => own_any a cap l W hW.sl hl)
    have kd := K1.out.drew
    have ld : ∀ W, AddI w a cap l w.heap.size e W → LdX 27 (.pointer (some ⟨w.heap.size, 0, none⟩)) W = .ok (.value (efV e)) W := fun W hW => ld_row hW.row
    have hl2 : l.length + [e].length ≤ 10000000 := by simp; omega
    have hle : ∀ W, AddI w a cap l w.heap.size e W → w.heap.size ≤ W.heap.size := fun W hW => hW.low.size
    go_wp2_with fail
    --@
    go_region_law (first
      | ((try go_simp); go_at_call 32; first | (refine (CO.out _ kd).mono ?_; rintro x w2 ⟨v2, rfl, o2, b2⟩; have k2 := kd.below b2) | (refine (CO.out _ (kd.alloc _)).mono ?_; rintro x w2 ⟨v2, rfl, o2, b2⟩; have k2 := (kd.alloc _).below b2; have s2 := (SlP.one LE_ok W1.drew e).below b2))
      | (refine step_append_sl LE_ok rfl _ _ rfl w.heap.size _ l [e] rfl (o2.base (kd.alloc _).low.size) _ 1 rfl s2 hl2 k2.low.size ?_; rintro v3 w3 o3 g3; have L3 := k2.low.grown g3 k2.low.size (o2.base (kd.alloc _).low.size).row)
      | (refine step_append_sl LE_ok rfl _ _ rfl w.heap.size _ l [e] rfl ((o2.base kd.low.size).alloc _) _ 1 rfl (SlP.one LE_ok _ e) hl2 (k2.alloc _).low.size ?_; rintro v3 w3 o3 g3; have L3 := (k2.alloc _).low.grown g3 (k2.alloc _).low.size (o2.base kd.low.size).row))
    all_goals
      go_wp2_with fail
      go_ret2
      exact ⟨_, by rw [HN.out]; rfl, by rw [HV.out]; exact o3, L3⟩

end Go.Proofs.Ytciijkognhdddaa
