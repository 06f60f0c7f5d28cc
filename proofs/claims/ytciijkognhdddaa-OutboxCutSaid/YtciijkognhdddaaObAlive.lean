/- The chapter's example. -/
import Derived.Test.YtciijkognhdddaaObSent
namespace Go.Proofs.Ytciijkognhdddaa
set_option maxRecDepth 100000
open Go.RowKit Go.ChangeShapes Go.WideShapes Go.ChangeAt
attribute [local go_sem ↓] ldEf stEf alEf bxEf eqEf bdEf bsEf
attribute [local go_sem] al_ef bx_ef st_new bd_ef bs_ef bs_ef0

def ef1 : Ef := ⟨1, 0, 10, 1, 0, ⟨#[97]⟩⟩
def ef2 : Ef := ⟨1, 0, 11, 1, 1, ⟨#[97]⟩⟩
def ef3 : Ef := ⟨1, 0, 13, 1, 2, ⟨#[97]⟩⟩
theorem bd_e1 (w : World) : BdX 27 #[(0, .int .i64 1), (3, .int .i64 1), (5, .string ⟨#[97]⟩), (2, .int .i64 10)] w = .ok (.value (efV ef1)) w := by kernel_rfl
theorem add_e1 : addFV [] ef1 = [ef1] ∧ addFN [] ef1 = 0 := ⟨by kernel_rfl, by kernel_rfl⟩
theorem sent_e1 : sentV [ef1] 1 10 = [ef2] ∧ sentN [ef1] 1 10 = 0 := ⟨by kernel_rfl, by kernel_rfl⟩
theorem sent_e2 : sentV [ef2] 1 11 = [ef3] ∧ sentN [ef2] 1 11 = 0 := ⟨by kernel_rfl, by kernel_rfl⟩
theorem right_e1 : rightE [ef1] = true := by kernel_rfl
theorem right_e2 : rightE [ef2] = true := by kernel_rfl
/-- The first of a row, cell by cell. -/
theorem OwnS.first {w : World} {base : Nat} {v : Value} {e : Ef} {l : List Ef} (h : OwnS LE w base v (e :: l)) : ∃ g cap, v = .slice (some ⟨g, 0, none⟩) (l.length + 1) cap ∧ g < w.heap.size ∧ l.length + 1 ≤ cap ∧ w.cell? ⟨g, 2, none⟩ = some (.int .i64 e.due) ∧ w.cell? ⟨g, 4, none⟩ = some (.int .i64 e.tries) := by
  obtain ⟨g, cap, rfl, _, h2, h3, _, hc, _⟩ := h.at LE_ok 0 (by simp)
  exact ⟨g, cap, rfl, h2, h3, hc 2 _ rfl, hc 4 _ rfl⟩

set_option maxHeartbeats 4000000 in
theorem alive_any (w : World) : Calls Try.prog 12 #[] w (Tell true w) := by
  have C1 : Hid (Calls Try.prog 9 #[.slice none 0 0, efV ef1] w (OwnSE LE [ef1] 0 w)) := Lib.hid (by
    have := add_any none 0 [] ef1 w (SlP.nil _ _ _) (by decide) (by simp)
    rwa [add_e1.1, add_e1.2] at this)
  have C2 : Hid (∀ a c W, SlP LE W a c [ef1] → Calls Try.prog 15 #[.slice a 1 c, .int .i64 1, .int .i64 10] W (OwnSE LE [ef2] 0 W)) := Lib.hid (fun a c W h => by
    have := sent_any a c [ef1] 1 10 W h right_e1 (by simp)
    rwa [sent_e1.1, sent_e1.2] at this)
  have C3 : Hid (∀ a c W, SlP LE W a c [ef2] → Calls Try.prog 15 #[.slice a 1 c, .int .i64 1, .int .i64 11] W (OwnSE LE [ef3] 0 W)) := Lib.hid (fun a c W h => by
    have := sent_any a c [ef2] 1 11 W h right_e2 (by simp)
    rwa [sent_e2.1, sent_e2.2] at this)
  have q1 := bd_e1 w
  go_enter Try.func12, Try.ntmps12
  go_wp2_with fail
  refine C1.out.mono ?_
  rintro x w1 ⟨v1, rfl, o1, b1⟩
  obtain ⟨a1, c1, rfl, s1⟩ := o1.sl
  go_wp2_with fail
  refine (C2.out a1 c1 w1 s1).mono ?_
  rintro x w2 ⟨v2, rfl, o2, b2⟩
  obtain ⟨a2, c2, rfl, s2⟩ := o2.sl
  go_wp2_with fail
  refine (C3.out a2 c2 w2 s2).mono ?_
  rintro x w3 ⟨v3, rfl, o3, b3⟩
  obtain ⟨g1, p1, e1, h1, q1, d1, t1⟩ := ((o1.below b2).below b3).first
  obtain ⟨g2, p2, e2, h2, q2, d2, t2⟩ := (o2.below b3).first
  obtain ⟨g3, p3, e3, h3, q3, d3, t3⟩ := o3.first
  injection e1 with e1 _ e1c
  injection e2 with e2 _ e2c
  subst e1 e1c e2 e2c e3
  have d2 : w3.cell? ⟨g2, 2, none⟩ = some (.int .i64 11) := d2
  have d3 : w3.cell? ⟨g3, 2, none⟩ = some (.int .i64 13) := d3
  have t3 : w3.cell? ⟨g3, 4, none⟩ = some (.int .i64 2) := t3
  have t1 : w3.cell? ⟨g1, 4, none⟩ = some (.int .i64 0) := t1
  have B := Lib.hid (b1.trans ((b2.trans (b3.mono b2.size)).mono b1.size))
  clear o1 o2 o3 s1 s2 b1 b2 b3 d1 t2
  go_wp2_with fail
  go_ret
  exact ⟨rfl, B.out⟩

end Go.Proofs.Ytciijkognhdddaa
