/- What Len, Loose, Off, Limit, has, spend, within, bit of package plate answer. -/
import Derived.Test.YtipikkniookanaaMem
import Derived.Deep.QuietTactic
import Derived.BigQuiet
namespace Go.Proofs.Ytipikkniookanaa
open Go.RowKit

attribute [local go_sem ↓] ld26 ld66 st26 st66 bx26 al26 al66 bd26 bd66 bs61 bs48 mk48 eq26 ap61 ap48 ap49 cp46 cp48
attribute [local go_sem] bx_agg al_cell al_wr bd_zero bd_one bd_two bd_nine

/-- This is answered, and nothing has turned. -/
def Same (v : Value) (w : World) (e : Ending) (w' : World) : Prop := e = .returned v ∧ w = w'

abbrev ptr (g : Nat) : Value := .pointer (some ⟨g, 0, none⟩)

section
variable {w : World} {R : Nat → Prop} {g bs bl : Nat} {lv : Value} {P : Pl}

set_option maxHeartbeats 1000000 in
theorem len_any (h : PlM w R g bs bl lv P) : Calls Try.prog 56 #[ptr g] w (Same (.int .i64 (P.sure.length : Int)) w) := by
  obtain ⟨c0, c1, c2, c3, c4, hf⟩ := head_cells h.head
  clear h
  go_enter Try.func56, Try.ntmps56
  go_wp2_with fail
  go_ret
  exact ⟨rfl, rfl⟩

theorem own_slice {base : Nat} {e : TypeId} {size : Nat} {v : Value} {n : Nat} {xs : List Value} (h : w.ownsRow base e size v n xs) : ∃ a cap, v = .slice a n cap ∧ n ≤ cap := by
  rcases h.2 with ⟨rfl, rfl⟩ | ⟨g, cap, cur, rfl, _, _, h3, _⟩
  · exact ⟨_, _, rfl, Nat.le_refl _⟩
  · exact ⟨_, _, rfl, h3⟩

set_option maxHeartbeats 1000000 in
theorem limit_any (h : PlM w R g bs bl lv P) (n : Int) (hn : n ≤ 9223372036854775807) : Calls Try.prog 21 #[ptr g, .int .i64 n] w (fun e w' => e = .returned (.tuple #[]) ∧ PlM w' R g bs bl lv (P.limit n) ∧ Upd g w w') := by
  obtain ⟨c0, c1, c2, c3, c4, hf⟩ := head_cells h.head
  have H := Lib.hid h
  have hm : (if n < -1 then (-1 : Int) else n) = (P.limit n).left := rfl
  generalize hx : (P.limit n).left = x at *
  have HX := Lib.hid hx
  clear h hx
  go_enter Try.func21, Try.ntmps21
  go_wp2_with fail
  go_end0
  refine ⟨rfl, H.out.setHead (H.out.good.limit hn) rfl rfl rfl ?_, ?_⟩
  · rw [HX.out]; rfl
  · exact ⟨rfl, rfl, rfl, by simp [World.setCell], fun k hk => heap_setCell_other w ⟨g, 3, none⟩ k _ hk⟩

set_option maxHeartbeats 1000000 in
theorem within_any (n : Int) (m : Nat) (w : World) : Calls Try.prog 32 #[.int .i64 n, .int .i64 (m : Int)] w (Same (.int .i64 (clampN n m : Int)) w) := by
  obtain ⟨q, hq, HQ⟩ : ∃ q : Int, (if (m : Int) < n then (m : Int) else n) = q ∧ Hid ((clampN n m : Int) = if 0 < q then q else 0) := by
    refine ⟨_, rfl, Lib.hid ?_⟩
    unfold clampN
    split <;> split <;> omega
  by_cases t : 0 < q
  · have E := Lib.hid (show (clampN n m : Int) = q by rw [HQ.out, if_pos t])
    clear HQ
    go_enter Try.func32, Try.ntmps32
    go_wp2_with fail
    go_ret
    exact ⟨by rw [E.out]; rfl, rfl⟩
  · have E := Lib.hid (show (clampN n m : Int) = 0 by rw [HQ.out, if_neg t])
    clear HQ
    go_enter Try.func32, Try.ntmps32
    go_wp2_with fail
    go_ret
    exact ⟨by rw [E.out]; rfl, rfl⟩

set_option maxHeartbeats 1000000 in
theorem has_any (h : PlM w R g bs bl lv P) (i : Int) : Calls Try.prog 82 #[ptr g, .int .i64 i] w (Same (.bool (P.has i)) w) := by
  obtain ⟨c0, c1, c2, c3, c4, hf⟩ := head_cells h.head
  clear h
  cases t1 : decide (0 ≤ i) with
  | false =>
    have E := Lib.hid (show P.has i = false by simp [Pl.has, t1])
    go_enter Try.func82, Try.ntmps82
    go_wp2_with fail
    go_ret
    exact ⟨by rw [E.out]; rfl, rfl⟩
  | true =>
    cases t2 : decide (i < (P.sure.length : Int)) with
    | false =>
      have E := Lib.hid (show P.has i = false by simp [Pl.has, t2])
      go_enter Try.func82, Try.ntmps82
      go_wp2_with fail
      go_ret
      exact ⟨by rw [E.out]; rfl, rfl⟩
    | true =>
      have E := Lib.hid (show P.has i = true by simp [Pl.has, t1, t2])
      go_enter Try.func82, Try.ntmps82
      go_wp2_with fail
      go_ret
      exact ⟨by rw [E.out]; rfl, rfl⟩

set_option maxHeartbeats 1000000 in
theorem spend_any (h : PlM w R g bs bl lv P) : Calls Try.prog 55 #[ptr g] w (fun e w' => e = .returned (.int .i64 P.spend.1) ∧ PlM w' R g bs bl lv P.spend.2 ∧ Upd g w w') := by
  obtain ⟨c0, c1, c2, c3, c4, hf⟩ := head_cells h.head
  have H := Lib.hid h
  have G := Lib.hid h.good.spend
  have U0 : Upd g w w := ⟨rfl, rfl, rfl, rfl, fun _ _ => rfl⟩
  have U : ∀ j v, Upd g w (w.setCell ⟨g, j, none⟩ v) := fun j v => ⟨rfl, rfl, rfl, by simp [World.setCell], fun k hk => heap_setCell_other w ⟨g, j, none⟩ k _ hk⟩
  have U0 := Lib.hid U0
  have U := Lib.hid U
  have hlow := h.good.low
  have hhigh := h.good.high
  clear h
  obtain ⟨sure, last, loose, left, off⟩ := P
  simp only at c0 c1 c2 c3 c4 hlow hhigh
  cases t0 : (left == 0) with
  | true =>
    have E := Lib.hid (show Pl.spend ⟨sure, last, loose, left, off⟩ = (72, ⟨sure, last, loose, left, true⟩) by simp [Pl.spend, t0])
    rw [E.out] at G
    go_enter Try.func55, Try.ntmps55
    go_wp2_with fail
    go_ret
    exact ⟨by rw [E.out]; rfl, by rw [E.out]; exact H.out.setHead G.out rfl rfl rfl rfl, U.out _ _⟩
  | false =>
    cases off with
    | true =>
      have E := Lib.hid (show Pl.spend ⟨sure, last, loose, left, true⟩ = (72, ⟨sure, last, loose, left, true⟩) by simp [Pl.spend])
      go_enter Try.func55, Try.ntmps55
      go_wp2_with fail
      go_ret
      exact ⟨by rw [E.out]; rfl, by rw [E.out]; exact H.out, U0.out⟩
    | false =>
      cases t1 : decide (0 < left) with
      | false =>
        have E := Lib.hid (show Pl.spend ⟨sure, last, loose, left, false⟩ = (0, ⟨sure, last, loose, left, false⟩) by simp [Pl.spend, t0]; simp at t1; omega)
        go_enter Try.func55, Try.ntmps55
        go_wp2_with fail
        go_ret
        exact ⟨by rw [E.out]; rfl, by rw [E.out]; exact H.out, U0.out⟩
      | true =>
        have E := Lib.hid (show Pl.spend ⟨sure, last, loose, left, false⟩ = (0, ⟨sure, last, loose, left - 1, false⟩) by simp [Pl.spend, t0]; simp at t1; omega)
        rw [E.out] at G
        have hw : IntKind.i64.wrap (left - 1) = left - 1 := IntWalk.i64_in _ (by simp at t1; omega)
        go_enter Try.func55, Try.ntmps55
        go_wp2_with fail
        go_ret
        exact ⟨by rw [E.out]; rfl, by rw [E.out]; exact H.out.setHead G.out rfl rfl rfl rfl, U.out _ _⟩
end

end Go.Proofs.Ytipikkniookanaa
