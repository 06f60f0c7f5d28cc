/- HalvesSplits: the law returns true for any names: both halves together are all, the first greater by one at most; what was answered is its own. It has no conditions. -/
import Derived.Test.YtbhknaggbenfnaaHvAlive
import Derived.Test.YtbhknaggbenfnaaHvArgs
import Derived.SizedLaws
namespace Go.Proofs.Ytbhknaggbenfnaa
open Go.ChangeShapes Go.WideShapes Go.ChangeAt Go.RowKit

set_option maxRecDepth 100000

theorem weightsAll_mem {H : Type} {P : Program} {e : TypeId} : ∀ {l : List (DataW H)} {d : DataW H}, d ∈ l → ∀ n ∈ d.weights P e, n ∈ DataW.weightsAll P e l
  | x :: l, d, hd, n, hn => by
    simp only [DataW.weightsAll, List.mem_append]
    rcases List.mem_cons.1 hd with rfl | h
    · exact .inl hn
    · exact .inr (weightsAll_mem h n hn)
/-- Texts that came in, each within the form's own reach. -/
theorem strs_of_trod_z {H : Type} {enc : TypeId × Value → H} {W : World} {base : Nat} {v : Value} {d : DataW H} {p : List MemPlace}
    (hv : Value.okWide Try.prog W .any base 27 v) (h : DataW.Trod enc Try.prog W 0 (fun _ => true) true 27 v d p) (hz : ∀ n ∈ d.weights Try.prog 27, n ≤ reachBytes) :
    ∃ a cap l, v = .slice a l.length cap ∧ (StrsP W a cap l ∧ ∀ s ∈ l, s.size ≤ 140737488355328) ∧ l.length ≤ maxLen := by
  obtain ⟨a, cap, l, rfl, ⟨hS, _⟩, hm⟩ := strs_of_trod hv h
  refine ⟨a, cap, l, rfl, ⟨hS, fun s hs => ?_⟩, hm⟩
  obtain ⟨fuel, hf⟩ := h
  rcases Go.Deep.open_strs Try.underlying27 Try.underlying9 cells9 hf with ⟨hcs, hx⟩ | ⟨a', len, cap', m, Sx, hcs, _, hl, _, hmm, hx, hcell⟩
  · simp [Value.cells] at hcs
    obtain ⟨_, rfl, _⟩ := hcs
    cases hs
  · simp [Value.cells] at hcs
    obtain ⟨rfl, hlen, rfl⟩ := hcs
    simp only [if_true] at hmm
    subst hmm
    obtain ⟨i, hi, rfl⟩ := List.getElem_of_mem hs
    obtain ⟨b, o, e, _, hc⟩ := hS.at i hi
    cases e
    have hci := (hcell i (by omega)).1
    rw [Go.WideShapes.add_plain, hc] at hci
    simp only [Option.some.injEq, Value.string.injEq] at hci
    simp only [Prod.mk.injEq] at hx
    have hw := hz l[i].data.toList.length (by
      rw [hx.1, DataW.weights, Try.underlying27]
      refine List.mem_cons_of_mem _ (List.mem_append.2 (.inl (weightsAll_mem (List.mem_map.2 ⟨i, List.mem_range.2 (by omega), rfl⟩) _ ?_)))
      rw [hci]
      simp [DataW.weights])
    have hr := reachBytes_lt
    have : l[i].size = l[i].data.toList.length := rfl
    omega

/-- The first of a row of the call's own. -/
theorem OwnT.first {w : World} {base : Nat} {v : Value} {l : List ByteArray} (h : OwnT w base v l) (h0 : l ≠ []) :
    ∃ b cap cur x, v = .slice (some ⟨b, 0, none⟩) l.length cap ∧ base ≤ b ∧ b < w.heap.size ∧ w.heap[b]? = some (.cells cur 9 (0, 0)) ∧ cur[0]? = some (.string x) ∧ l.head? = some x ∧ l.length ≤ cap := by
  rcases h.2 with ⟨_, e⟩ | ⟨g, cap, cur, e, h1, h2, h3, _, _, h6⟩
  · exact absurd (List.length_eq_zero_iff.1 e) h0
  · cases l with
    | nil => exact absurd rfl h0
    | cons x r =>
      refine ⟨g, cap, cur, x, e, h1, (Array.getElem?_eq_some_iff.1 h2).1, h2, ?_, rfl, h3⟩
      have := congrArg (fun z => z[0]?) h6
      simp only [List.map_cons, List.getElem?_cons_zero, List.length_cons, Nat.mul_one] at this
      rw [List.getElem?_take, if_pos (by omega), Array.getElem?_toList] at this
      exact this

/-- An append under a guard that lets it by. -/
theorem wpList_append_texts_g {w : World} {ops : Array Oper} {rest : List Oper} {o : Oper} {a : Act} {Q : Exit → Act → World → Prop} (hw : Region.wanted o (yielded ops a.tmps) = true) (s x : Operand)
    (ho : o.op = .call { callee := .builtin .append, args := #[s, x], argTypes := #[27, 27] }) (base : Nat) (v : Value) (xs ys : List ByteArray) (hs : a.eval s = v) (hown : OwnT w base v xs) (A : Option Addr) (cA : Nat)
    (hx : a.eval x = .slice A ys.length cA) (hy : StrsP w A cA ys) (hlen : xs.length + ys.length ≤ 1000000) (hb : base ≤ w.heap.size)
    (h : ∀ v' w', OwnT w' base v' (xs ++ ys) → w.grownBy w' v.ownBlock → wpList Try.prog ops Q rest (a.put o.dst v') w') : wpList Try.prog ops Q (o :: rest) a w :=
  wpList_step fun _ hK => by
    rw [if_pos hw]
    exact wp_append_texts s x ho base v xs ys hs hown A cA hx hy hlen hb fun v' w' h1 h2 => hK _ _ (h v' w' h1 h2)

set_option maxHeartbeats 8000000 in
theorem splits_walk (a : Option Addr) (cap : Nat) (l : List ByteArray) (w : World) (h : StrsP w a cap l ∧ ∀ s ∈ l, s.size ≤ 140737488355328) : Calls Try.prog 7 #[.slice a l.length cap] w (Tell true w) := by
  obtain ⟨hS, hz⟩ := h
  have CA := Lib.hid (alive_any w)
  by_cases hl : l.length > 100
  · have hl' : (l.length : Int) > 100 := by omega
    clear hS hz
    go_enter Try.func7, Try.ntmps7
    go_wp2_with fail
    refine CA.out.mono ?_
    rintro e w1 ⟨rfl, b1⟩
    go_wp2_with fail
    go_ret
    exact ⟨rfl, b1⟩
  · have hl' : ¬ (l.length : Int) > 100 := by omega
    have S := Lib.hid hS
    have Z := Lib.hid hz
    have CS := Lib.hid (fun W (hb : Below w.heap.size w W) => split_any a cap l W (hS.below hb) (by omega))
    have LA := Lib.hid (halfA_len l)
    have LB := Lib.hid (halfB_len l)
    have HN := Lib.hid (show halfN l.length = (l.length + 1) / 2 from rfl)
    have AP := Lib.hid (half_app l)
    have hn : l.length ≤ 100 := by omega
    clear hS hz hl
    go_enter Try.func7, Try.ntmps7
    go_wp2_with fail
    refine CA.out.mono ?_
    rintro e w1 ⟨rfl, b1⟩
    go_wp2_with fail
    refine (CS.out w1 b1).mono ?_
    rintro e w2 ⟨v1, v2, rfl, o1, o2, b2⟩
    obtain ⟨a1, c1, rfl, s1⟩ := o1.strs
    obtain ⟨a2, c2, rfl, s2⟩ := o2.strs
    have O1 := Lib.hid o1
    have S1 := Lib.hid s1
    have S2 := Lib.hid s2
    have B1 := Lib.hid b1
    have B2 := Lib.hid (b1.trans (b2.mono b1.size))
    have hd : ((halfA l).length : Int) - ((halfB l).length : Int) = (l.length : Int) % 2 := by
      rw [LA.out, LB.out, HN.out]
      omega
    have ha : (halfA l).length ≤ 100 := by rw [LA.out, HN.out]; omega
    have hb : (halfB l).length ≤ 100 := by rw [LB.out]; omega
    clear o1 o2 s1 s2 b1 b2
    have O0 := Lib.hid (OwnT.fresh w2 w2.heap.size (Nat.le_refl _))
    have S1' := Lib.hid (S1.out.below ((Below.refl _ _).alloc (Nat.le_refl _) (.cells #[] 9)))
    go_wp2_with (at_builtin; refine wpList_append_texts_g rfl _ _ rfl w2.heap.size _ [] (halfA l) rfl O0.out a1 c1 rfl S1'.out (by simp; omega) (by simp) ?_)
    intro v3 w3 o3 g3
    have k3 : Below w2.heap.size w2 w3 := ((Below.refl w2.heap.size w2).alloc (Nat.le_refl _) (.cells #[] 9)).grown g3 (by simp) (fun k hk => by cases hk; exact Nat.le_refl _)
    have S2' := Lib.hid (S2.out.below k3)
    have O3 := Lib.hid o3
    have K3 := Lib.hid k3
    clear o3 g3 k3
    go_wp2_with (at_builtin; refine wpList_append_texts_g rfl _ _ rfl w2.heap.size _ (halfA l) (halfB l) rfl O3.out a2 c2 rfl S2'.out (by omega) K3.out.size ?_)
    intro v4 w4 o4 g4
    have b4 : Below w2.heap.size w2 w4 := K3.out.grown g4 K3.out.size (fun k hk => O3.out.ge k hk)
    rw [AP.out] at o4
    obtain ⟨a4, c4, rfl, s4⟩ := o4.strs
    have CM := Lib.hid (refSameT_any a4 a c4 cap l l w4 s4 (S.out.below (B2.out.trans (b4.mono B2.out.size))))
    rw [sameT_self] at CM
    have B4 := Lib.hid (B2.out.trans (b4.mono B2.out.size))
    have K4 := Lib.hid b4
    clear o4 g4 b4 s4 O0 S1' S2' O3 K3 S1 S2 CA CS
    go_wp2_with fail
    refine CM.out.mono ?_
    rintro e w5 ⟨rfl, b5⟩
    have B5 := Lib.hid (B4.out.trans (b5.mono B4.out.size))
    have K5 := Lib.hid (K4.out.trans (b5.mono K4.out.size))
    clear b5 K4 B4
    by_cases h0 : (halfA l).length = 0
    · have hx : ¬ ((halfA l).length : Int) > 0 := by omega
      clear h0
      go_wp2_with fail
      go_ret
      exact ⟨rfl, B5.out⟩
    · have hx : ((halfA l).length : Int) > 0 := by omega
      have hn0 : 0 < l.length := by
        have h1 := LA.out
        have h2 := HN.out
        omega
      obtain ⟨b, cp, cur, x, e1, hge, hlt, hcur, hx0, hhd, hcp⟩ := O1.out.first (by intro e; rw [e] at h0; exact h0 rfl)
      injection e1 with e1 _ e3
      subst e1
      subst e3
      have hxz : x.size ≤ 140737488355328 := by
        refine Z.out x ?_
        rw [← AP.out]
        exact List.mem_append.2 (.inl (List.mem_of_mem_head? hhd))
      obtain ⟨bn, on, rfl, hbn, d0⟩ := S.out.at 0 hn0
      simp only [Nat.add_zero] at d0
      have hne : bn ≠ b := by
        have := B1.out.size
        omega
      have d1 : w5.cell? ⟨bn, on, none⟩ = some (.string l[0]) := (B5.out.cell (p := ⟨bn, on, none⟩) hbn).trans d0
      have hh : w5.heap[b]? = some (.cells cur 9 (0, 0)) := (K5.out.block b hlt).trans hcur
      have d2 : w5.cell? ⟨b, 0, none⟩ = some (.string x) := by simp [World.cell?, hh, hx0]
      have f2 : w5.frozen? ⟨b, 0, none⟩ = false := by simp [World.frozen?, hh]
      have d3 : (w5.setCell ⟨b, 0, none⟩ (.string (x ++ ⟨#[120]⟩))).cell? ⟨bn, on, none⟩ = some (.string l[0]) := by
        rw [← d1]
        simp only [World.cell?]
        rw [heap_setCell_other _ _ _ _ (by simpa using hne)]
      have BF := Lib.hid (show Below w.heap.size w (w5.setCell ⟨b, 0, none⟩ (.string (x ++ ⟨#[120]⟩))) from
        ⟨B5.out.os, B5.out.tape, B5.out.output, by simpa [World.setCell] using B5.out.size, fun k hk => by
          rw [heap_setCell_other _ _ _ _ (by have := B1.out.size; show k ≠ b; omega)]
          exact B5.out.block k hk⟩)
      have hcap := S.out.cap
      generalize l[0] = y at *
      clear hcur hx0 hhd hh d0 h0 hne hge hlt hbn CM O1 Z S
      go_wp2_with fail
      go_ret
      exact ⟨by first | rfl | simp, BF.out⟩



set_option maxRecDepth 100000 in
theorem halvesSplits_lifted (os : Os) (started : os.Started) (H : Type) (enc : TypeId × Value → H) :
    ReturnsInHanded {} Try.checked os 7 .any (Rows.halvesSplitsSpec.pre6 enc Try.prog Try.f7 Rows.halvesSplitsRow.domain false) (Rows.halvesSplitsSpec.post enc Try.prog Try.f7 false true false false) := by
  refine returnsInHanded_of_change_sized (C := Try.checked) own started (by kernel_rfl) Try.func7
    (ChangeSpec.witness6 (enc := enc) (C := Try.checked) false ⟨#[], #[.slice none 0 0], []⟩ 8 (by kernel_rfl) (by kernel_rfl) (by kernel_rfl) (by kernel_rfl)) ?_
  intro W base args ds gs before hval0 hW _ hsz0 _
  have hval : ∀ (j : Nat) t v, Try.f7.params[j]? = some t → args[j]? = some v → Value.okWide Try.prog W .any base t v := hval0
  have hW' := hW
  obtain ⟨p, q, hA0, hV, rfl, _, _⟩ := hW
  have hA : DataW.TrodAll enc Try.prog W 0 (fun _ => true) true Try.f7.params.toList args.toList ds p := hA0
  have hsz : (DataW.weightsEach Try.prog (Try.f7.params.toList ++ Rows.halvesSplitsSpec.plain.varTypes Try.prog) (ds ++ gs)).all (· ≤ reachBytes) = true := hsz0
  clear hsz0
  rw [Try.params7] at hA hval hsz
  obtain ⟨v0, vs0, d0, ds0, p0, q_0, hargs, rfl, rfl, h0, r0⟩ := trodAll_cons hA
  obtain ⟨rfl, rfl, rfl⟩ := trodAll_nil r0
  obtain rfl : args = #[v0] := by cases args; simp_all
  obtain ⟨rfl, rfl⟩ := trodVars_none hV
  clear hA0 hval0
  simp only [List.append_nil] at hW'
  obtain ⟨q0, cap0, l0, rfl, hS0, hm0⟩ := strs_of_trod_z (hval 0 27 v0 rfl rfl) h0 (fun n hn => by simpa using List.all_eq_true.1 hsz n (DataW.weights_mem_each (j := 0) rfl rfl n hn))
  have hlt0 : ∀ x ∈ p0, x.block < W.heap.size := fun x hx => by simpa using hW'.lt x (by simpa using (by simp [hx]))
  refine (splits_walk q0 cap0 l0 W hS0).mono fun e W' ⟨he, hb⟩ => ?_
  subst he
  have hT : DataW.TrodAll enc Try.prog W' 0 (fun b => decide (b < W.heap.size)) true _ _ _ _ := (trodAll_cons_mk (Below.trod laidOut (by kernel_rfl) (of_decide_eq_true (by kernel_rfl)) h0 hb hlt0) trodAll_mk0)
  simp only [List.append_nil] at hT
  exact ⟨_, rfl, _, _, _, [], p0, [], hW', trodAll_mk1 (shut_bool Try.underlying4 _), hT, rfl, hb.frame _, fun h => by cases h⟩

theorem halvesSplits_holds : Rows.HalvesSplitsSaid :=
  OpenClaim.holds_of_wide 7 Try.f7 rfl rfl rfl rfl rfl rfl rfl ⟨rfl, rfl, rfl, rfl, rfl⟩ rfl rfl rfl rfl rfl (by kernel_rfl) Try.func7 (by kernel_rfl)
    (of_decide_eq_true (by kernel_rfl)) (by unfold Func.isWrapper; first | (rw [if_pos (by decide +kernel)]; kernel_rfl) | (rw [if_neg (by decide +kernel)]; exact ⟨rfl, rfl⟩))
    (fun os started H enc _ => halvesSplits_lifted os started H enc)
#print axioms halvesSplits_holds


end Go.Proofs.Ytbhknaggbenfnaa
