/- The document's Add. -/
import Derived.Test.YtciijkognhdddaaObRef2
import Derived.Deep.DeepCutAuto
import Derived.Deep.RegionLaw
namespace Go.Proofs.Ytciijkognhdddaa
set_option maxRecDepth 100000
open Go.RowKit Go.ChangeShapes Go.WideShapes Go.ChangeAt
attribute [local go_sem ↓] ldEf stEf alEf bxEf eqEf bdEf bsEf
attribute [local go_sem] al_ef bx_ef st_new bd_ef bs_ef bs_ef0

theorem SlP.grown {α : Type} {L : Lay α} {w w' : World} {a : Option Addr} {cap : Nat} {l : List α} {row : Option Nat} (h : SlP L w a cap l) (hg : w.grownBy w' row) (hr : ∀ x, a = some x → some x.block ≠ row) : SlP L w' a cap l := by
  refine h.same hg.size fun hne x hx => hg.block _ ?_ (hr x hx)
  obtain ⟨b, o, e, hlt, _⟩ := h.cell hne
  rw [hx] at e
  injection e with e
  subst e
  exact hlt

set_option maxHeartbeats 8000000 in
theorem refAdd_any (a : Option Addr) (cap : Nat) (l : List Ef) (e : Ef) (w : World) (h : SlP LE w a cap l) (hm : ∀ y ∈ l, y.order.size ≤ maxLen) (hs : e.order.size ≤ maxLen) (hl : l.length ≤ 1000000) :
    Calls Try.prog 14 #[.slice a l.length cap, efV e] w (OwnSE LE (addEV l e) (addEN l e) w) := by
  have K0 := Lib.hid (AddI.begin h e)
  have HV := Lib.hid (show addEV l e = if rightE (l ++ [e]) then l ++ [e] else [] from rfl)
  have HN := Lib.hid (show addEN l e = if rightE (l ++ [e]) then 0 else 131 from rfl)
  have CR : Hid (∀ a c W, SlP LE W a c (l ++ [e]) → Calls Try.prog 27 #[.slice a (l.length + 1) c] W (Tell (rightE (l ++ [e])) W)) := Lib.hid (fun a c W hW => by
    have := refObRight_any a c (l ++ [e]) W hW (fun y hy => by
      rcases List.mem_append.1 hy with hy | hy
      · exact hm y hy
      · simp at hy; subst hy; exact hs)
    rwa [show (l ++ [e]).length = l.length + 1 by simp] at this)
  generalize addEV l e = V at *
  generalize addEN l e = N at *
  generalize hra : rightE (l ++ [e]) = r at *
  clear h hra
  go_enter Try.func14, Try.ntmps14
  go_wp2_with fail
  generalize w.alloc (Obj.cells (efC e) 27) = W1 at *
  have kd := (K0.out.alloc (.cells #[] 27)).drew
  have kd0 := K0.out.drew
  have OC : OwnS LE ((W1.alloc (.cells (efC e) 27)).alloc (.cells #[] 27)).drew W1.heap.size (.slice (some ⟨W1.heap.size + 1, 0, none⟩) 0 0) [] := (by
    have := OwnS.fresh (L := LE) (W1.alloc (.cells (efC e) 27)) W1.heap.size (by simp)
    rw [show (W1.alloc (.cells (efC e) 27)).heap.size = W1.heap.size + 1 by simp] at this
    exact this.below (Below.refl _ _).drew)
  have KC := ((K0.out.alloc (.cells (efC e) 27)).alloc (.cells #[] 27)).drew
  have BC : Below W1.heap.size W1 ((W1.alloc (.cells (efC e) 27)).alloc (.cells #[] 27)).drew := (((Below.refl W1.heap.size W1).alloc (Nat.le_refl _) _).alloc (by simp) _).drew
  have SC : SlP LE ((W1.alloc (.cells (efC e) 27)).alloc (.cells #[] 27)).drew (some ⟨W1.heap.size, 0, none⟩) 1 [e] := ((ef_one W1 W1.heap.size rfl e).alloc _).below (Below.refl _ _).drew
  have ld : ∀ W, AddI w a cap l w.heap.size e W → LdX 27 (.pointer (some ⟨w.heap.size, 0, none⟩)) W = .ok (.value (efV e)) W := fun W hW => ld_row hW.row
  have hl0 : ([] : List Ef).length + l.length ≤ 10000000 := by simp; omega
  have hl2 : l.length + [e].length ≤ 10000000 := by simp; omega
  have B0 : Below W1.heap.size W1 (W1.alloc (.cells #[] 27)).drew := ((Below.refl W1.heap.size W1).alloc (Nat.le_refl _) _).drew
  have O0 : OwnS LE (W1.alloc (.cells #[] 27)).drew W1.heap.size (.slice (some ⟨W1.heap.size, 0, none⟩) 0 0) [] := (OwnS.fresh (L := LE) W1 W1.heap.size (Nat.le_refl _)).below (Below.refl _ _).drew
  go_cut [6] (fun v wx => ∃ a c, v = .slice a (l.length + 1) c ∧ Hid (OwnS LE wx w.heap.size v (l ++ [e])) ∧ Hid (Below w.heap.size w wx))
  case first =>
    go_region_law (first
      | (refine step_append_sl LE_ok rfl _ _ rfl W1.heap.size (.slice (some ⟨W1.heap.size, 0, none⟩) 0 0) [] l rfl O0 a cap rfl kd.sl hl0 B0.size ?_; rintro v3 w3 o3 g3; have b3 := B0.grown g3 B0.size O0.row; have k3 := K0.out.below b3)
      | (refine step_append_sl LE_ok rfl _ _ rfl W1.heap.size (.slice (some ⟨W1.heap.size, 0, none⟩) 0 0) [] l rfl (O0.alloc _) a cap rfl (kd.alloc _).sl hl0 (Nat.le_trans B0.size (by simp)) ?_; rintro v3 w3 o3 g3; have b3 := (B0.alloc B0.size _).grown g3 (Nat.le_trans B0.size (by simp)) O0.row; have k3 := K0.out.below b3; have s3 := (ef_one (W1.alloc (.cells #[] 27)).drew (W1.heap.size + 1) (by simp) e).grown g3 (by intro x hx; cases hx; simp [Value.ownBlock]))
      | (refine step_append_sl LE_ok rfl _ _ rfl W1.heap.size (.slice (some ⟨W1.heap.size + 1, 0, none⟩) 0 0) [] l rfl OC a cap rfl KC.sl hl0 BC.size ?_; rintro v3 w3 o3 g3; have b3 := BC.grown g3 BC.size OC.row; have k3 := K0.out.below b3; have s3 := SC.grown g3 (by intro x hx; cases hx; simp [Value.ownBlock]))
      | (refine step_append_sl LE_ok rfl _ _ rfl W1.heap.size _ l [e] rfl o3 _ 1 rfl s3 hl2 b3.size ?_; rintro v4 w4 o4 g4; have b4 := b3.grown g4 b3.size o3.row)
      | (refine step_append_sl LE_ok rfl _ _ rfl W1.heap.size _ l [e] rfl (o3.alloc _) _ 1 rfl (SlP.one LE_ok _ e) hl2 (Nat.le_trans b3.size (by simp)) ?_; rintro v4 w4 o4 g4; have b4 := (b3.alloc b3.size _).grown g4 (Nat.le_trans b3.size (by simp)) o3.row))
    all_goals
      obtain ⟨a4, c4, rfl⟩ := o4.shape
      go_wp2_with fail
      go_meet
      exact ⟨a4, c4, by simp, Lib.hid (o4.base K0.out.low.size), Lib.hid (K0.out.low.trans (b4.mono K0.out.low.size))⟩
  case rest =>
    obtain ⟨a2, c2, rfl, O2, B2⟩ := hcut
    clear kd kd0 ld hl0 hl2 B0 O0 OC KC BC SC
    have S2 := Lib.hid (show SlP LE wc a2 c2 (l ++ [e]) by
      obtain ⟨a', c', e', s'⟩ := O2.out.sl
      injection e' with e1 e2 e3
      subst e1 e3
      exact s')
    go_wp2_with fail
    refine (CR.out _ _ _ S2.out).mono ?_
    rintro x w5 ⟨rfl, b5⟩
    have O5 := Lib.hid (O2.out.below b5)
    have B5 := Lib.hid (B2.out.trans (b5.mono B2.out.size))
    clear O2 B2 S2 CR
    cases r with
    | false =>
      go_wp2_with fail
      go_ret2
      exact ⟨_, by rw [HN.out]; rfl, by rw [HV.out]; exact OwnS.nil _ _, B5.out⟩
    | true =>
      go_wp2_with fail
      go_ret2
      exact ⟨_, by rw [HN.out]; rfl, by rw [HV.out]; exact O5.out, B5.out⟩

end Go.Proofs.Ytciijkognhdddaa
