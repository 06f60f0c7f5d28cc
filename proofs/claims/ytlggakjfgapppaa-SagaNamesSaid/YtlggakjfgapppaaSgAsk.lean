/- The document's Asks: a map. -/
import Derived.Test.YtlggakjfgapppaaSgLay
import Derived.Maps.OwnSet
import Derived.Maps.OwnOps
namespace Go.Proofs.Ytlggakjfgapppaa
set_option maxRecDepth 100000
open Go.RowKit Go.Maps

theorem wf_small {a : Int} (h : -1 ≤ a ∧ a ≤ 100) : (Lit.int .i64 a).wf = true := by
  simp [Lit.wf, IntKind.min, IntKind.max, IntKind.signed, IntKind.bits]
  omega
theorem run_makeMap0 (w : World) : (Instr.makeMap 39 none).run Try.prog w = .ok (.map (some w.heap.size)) (w.alloc (.map #[] 0)) := by rfl
theorem zero3 (w : World) : (zeroValue 3).run Try.prog w = .ok (.int .i64 0) w := by kernel_rfl
/-- The map's entries, one behind the other. -/
def putD (D : DataW Unit) (k v : Int) : DataW Unit := D.put (.int .i64 k) (.lit (.int .i64 v))
def askD : DataW Unit := putD (putD (putD (putD (putD (.map []) 1 1) 2 2) 7 5) 9 6) 10 7
theorem isMap_put {D : DataW Unit} (h : IsMap D) (k v : Int) : IsMap (putD D k v) := by
  obtain ⟨es, rfl⟩ := h
  exact ⟨_, rfl⟩
theorem at_put {D : DataW Unit} (h : IsMap D) (k v p : Int) (z : DataW Unit) : (putD D k v).atKey (.int .i64 p) z = if p = k then .lit (.int .i64 v) else D.atKey (.int .i64 p) z := by
  unfold putD
  split
  · rename_i e
    subst e
    exact atKey_put_same (k := .int .i64 p) h trivial _ _
  · rename_i e
    exact atKey_put_other (fun hc => e (by injection hc)) _ _
theorem ask_at (p : Int) : askD.atKey (.int .i64 p) (.lit (.int .i64 0)) = .lit (.int .i64 (asksN p)) := by
  have m0 : IsMap (.map [] : DataW Unit) := isMap_empty
  have m1 := isMap_put m0 1 1
  have m2 := isMap_put m1 2 2
  have m3 := isMap_put m2 7 5
  have m4 := isMap_put m3 9 6
  unfold askD
  rw [at_put m4, at_put m3, at_put m2, at_put m1, at_put m0]
  unfold asksN
  by_cases h1 : p = 1
  · subst h1; rfl
  · by_cases h2 : p = 2
    · subst h2; rfl
    · by_cases h3 : p = 7
      · subst h3; rfl
      · by_cases h4 : p = 9
        · subst h4; rfl
        · by_cases h5 : p = 10
          · subst h5; rfl
          · simp only [h1, h2, h3, h4, h5, if_false]
            rfl

set_option maxHeartbeats 2000000 in
theorem refAsks_any (p : Int) (w : World) (hp : -1 ≤ p ∧ p ≤ 100) : Calls Try.prog 10 #[.int .i64 p] w (NumP (asksN p) w) := by
  have K := int_keyed Try.underlying3
  have ht := Try.underlying39
  have hmm := run_makeMap0 w
  have B0 := (Below.refl w.heap.size w).alloc (Nat.le_refl _) (.map #[] 0)
  have o0 := World.ownsMap_made (H := Unit) w Try.prog 3 (plainElem Try.prog 3)
  generalize w.alloc (.map #[] 0) = W0 at *
  obtain ⟨w1, r1, o1, g1⟩ := o0.update K ht (by unfold maxLen; omega) (keyOf_int_mk Try.underlying3 (wf_small (a := 1) (by omega))) (plainElem_int Try.underlying3 (wf_small (a := 1) (by omega)))
  obtain ⟨w2, r2, o2, g2⟩ := o1.update K ht (by unfold maxLen; omega) (keyOf_int_mk Try.underlying3 (wf_small (a := 2) (by omega))) (plainElem_int Try.underlying3 (wf_small (a := 2) (by omega)))
  obtain ⟨w3, r3, o3, g3⟩ := o2.update K ht (by unfold maxLen; omega) (keyOf_int_mk Try.underlying3 (wf_small (a := 7) (by omega))) (plainElem_int Try.underlying3 (wf_small (a := 5) (by omega)))
  obtain ⟨w4, r4, o4, g4⟩ := o3.update K ht (by unfold maxLen; omega) (keyOf_int_mk Try.underlying3 (wf_small (a := 9) (by omega))) (plainElem_int Try.underlying3 (wf_small (a := 6) (by omega)))
  obtain ⟨w5, r5, o5, g5⟩ := o4.update K ht (by unfold maxLen; omega) (keyOf_int_mk Try.underlying3 (wf_small (a := 10) (by omega))) (plainElem_int Try.underlying3 (wf_small (a := 7) (by omega)))
  have hr : ∀ k : Nat, some w.heap.size = some k → w.heap.size ≤ k := fun k hk => by injection hk with hk; omega
  have B5 := Lib.hid (((((B0.grown g1 B0.size hr).grown g2 (B0.grown g1 B0.size hr).size hr).grown g3 ((B0.grown g1 B0.size hr).grown g2 (B0.grown g1 B0.size hr).size hr).size hr).grown g4 (((B0.grown g1 B0.size hr).grown g2 (B0.grown g1 B0.size hr).size hr).grown g3 ((B0.grown g1 B0.size hr).grown g2 (B0.grown g1 B0.size hr).size hr).size hr).size hr).grown g5 ((((B0.grown g1 B0.size hr).grown g2 (B0.grown g1 B0.size hr).size hr).grown g3 ((B0.grown g1 B0.size hr).grown g2 (B0.grown g1 B0.size hr).size hr).size hr).grown g4 (((B0.grown g1 B0.size hr).grown g2 (B0.grown g1 B0.size hr).size hr).grown g3 ((B0.grown g1 B0.size hr).grown g2 (B0.grown g1 B0.size hr).size hr).size hr).size hr).size hr)
  obtain ⟨c, rl, hat, _⟩ := o5.lookup_int K ht Try.underlying3 (zero3 w5) (keyOf_int_mk Try.underlying3 (wf_small hp))
  have hc : c = asksN p := by
    have h2 := ask_at p
    have h3 := hat.symm.trans h2
    injection h3 with h3
    injection h3 with _ h3
  clear o0 o1 o2 o3 o4 o5 g1 g2 g3 g4 g5 hat hr K ht B0
  go_enter Try.func10, Try.ntmps10
  go_wp2_with fail
  go_ret
  exact ⟨rfl, B5.out⟩

end Go.Proofs.Ytlggakjfgapppaa
