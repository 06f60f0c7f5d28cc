/- A number with its last bit turned is another; the texts of a state that came in are within the form's own reach. -/
import Derived.Test.YtaghbfnikcldiaaMgStates
import Derived.SizedLaws
import Derived.Deep.Strs
namespace Go.Proofs.Ytaghbfnikcldiaa
set_option maxRecDepth 100000
open Go.ChangeShapes Go.WideShapes Go.ChangeAt Go.RowKit

theorem xor1_ne (x : Int) : bits .xor .i64 x 1 ≠ x := by
  intro h
  have e : bits .xor .i64 x 1 = IntKind.i64.wrap ((BitVec.ofInt 64 x ^^^ BitVec.ofInt 64 1).toNat : Int) := rfl
  rw [e, IntKind.wrap_i64] at h
  have e2 : BitVec.ofInt 64 x = BitVec.ofInt 64 x ^^^ BitVec.ofInt 64 1 := by
    generalize BitVec.ofInt 64 x ^^^ BitVec.ofInt 64 1 = y at *
    rw [← h]
    apply BitVec.eq_of_toNat_eq
    have := y.isLt
    rw [BitVec.toNat_ofInt]
    omega
  have e3 := congrArg (fun b : BitVec 64 => b.getLsbD 0) e2
  simp only [BitVec.getLsbD_xor] at e3
  have e4 : (BitVec.ofInt 64 1).getLsbD 0 = true := by decide
  rw [e4] at e3
  cases hb : (BitVec.ofInt 64 x).getLsbD 0 <;> rw [hb] at e3 <;> cases e3
theorem weights_all {H : Type} {P : Program} {e : TypeId} : ∀ {l : List (DataW H)} {d : DataW H}, d ∈ l → ∀ n ∈ d.weights P e, n ∈ DataW.weightsAll P e l
  | x :: l, d, hd, n, hn => by
    simp only [DataW.weightsAll, List.mem_append]
    rcases List.mem_cons.1 hd with rfl | h
    · exact .inl hn
    · exact .inr (weights_all h n hn)
theorem strs_reach {H : Type} {enc : TypeId × Value → H} {W : World} {fuel : Nat} {a : Option Addr} {cap : Nat} {l : List ByteArray} {x : DataW H × List MemPlace} (hS : StrsP W a cap l)
    (hf : DataW.trod enc Try.prog W 0 (fun _ => true) true fuel 51 [.slice a l.length cap] = some x) (hz : ∀ n ∈ x.1.weights Try.prog 51, n ≤ reachBytes) : ∀ s ∈ l, s.size ≤ 140737488355328 := by
  intro s hs
  rcases Go.Deep.open_strs Try.underlying51 Try.underlying9 cells9 hf with ⟨hcs, _⟩ | ⟨a', len, cap', m, Sx, hcs, _, hl, _, hmm, hx, hcell⟩
  · simp only [List.cons.injEq, Value.slice.injEq, and_true] at hcs
    rw [List.eq_nil_of_length_eq_zero hcs.2.1] at hs
    cases hs
  · simp only [List.cons.injEq, Value.slice.injEq, and_true] at hcs
    obtain ⟨rfl, hlen, rfl⟩ := hcs
    simp only [if_true] at hmm
    subst hmm
    obtain ⟨i, hi, rfl⟩ := List.getElem_of_mem hs
    obtain ⟨b, o, e, _, hc⟩ := hS.at i hi
    cases e
    have hci := (hcell i (by omega)).1
    rw [Go.WideShapes.add_plain, hc] at hci
    simp only [Option.some.injEq, Value.string.injEq] at hci
    have hw := hz l[i].data.toList.length (by
      rw [hx, DataW.weights, Try.underlying51]
      refine List.mem_cons_of_mem _ (List.mem_append.2 (.inl (weights_all (List.mem_map.2 ⟨i, List.mem_range.2 (by omega), rfl⟩) _ ?_)))
      rw [hci]
      simp [DataW.weights])
    have hr := reachBytes_lt
    have : l[i].size = l[i].data.toList.length := rfl
    omega
theorem batch_reach {H : Type} {enc : TypeId × Value → H} {W : World} {n : Nat} {r : BtR} {x : DataW H × List MemPlace} (hB : BtP W r.a r.c r.b)
    (hf : DataW.trod enc Try.prog W 0 (fun _ => true) true n 53 (baL r) = some x) (hz : ∀ n ∈ x.1.weights Try.prog 53, n ≤ reachBytes) : ∀ s ∈ r.b.mem, s.size ≤ 140737488355328 := by
  obtain ⟨xs, m, _, hx, hlen, hxl, hf⟩ := DataW.trod_struct Try.underlying53 hf
  have hx7 : xs.length = 7 := hxl
  match xs, hx7 with
  | [x0, x1, x2, x3, x4, x5, x6], _ =>
    have h6 := hf 6 _ rfl
    simp only [List.getElem?_cons_zero, List.getElem?_cons_succ] at h6
    simp [cellsTs, baL] at h6
    refine strs_reach hB.mem h6 (fun k hk => hz k ?_)
    rw [hx, DataW.weights, Try.underlying53]
    exact DataW.weights_mem_each (j := 6) rfl rfl k hk
/-- The members' texts of a state that came in. -/
theorem state_reach {H : Type} {enc : TypeId × Value → H} {W : World} {r : StR} {d : DataW H} {p : List MemPlace} (hP : StP W r)
    (h : DataW.Trod enc Try.prog W 0 (fun _ => true) true 29 (stV r) d p) (hz : ∀ n ∈ d.weights Try.prog 29, n ≤ reachBytes) : ∀ x ∈ r.bats, ∀ s ∈ x.b.mem, s.size ≤ 140737488355328 := by
  intro x hxm
  obtain ⟨fuel, hf⟩ := h
  obtain ⟨xs, m, _, hx, hlen, hxl, hf⟩ := DataW.trod_struct Try.underlying29 hf
  have hx10 : xs.length = 10 := hxl
  match xs, hx10 with
  | [x0, x1, x2, x3, x4, x5, x6, x7, x8, x9], _ =>
    have h8 := hf 8 _ rfl
    simp only [List.getElem?_cons_zero, List.getElem?_cons_succ] at h8
    simp [cellsBs, stV, stC, Value.cells] at h8
    have hz8 : ∀ n ∈ x8.1.weights Try.prog 26, n ≤ reachBytes := fun n hn => hz n (by
      simp only [Prod.mk.injEq] at hx
      rw [hx.1, DataW.weights, Try.underlying29]
      exact DataW.weights_mem_each (j := 8) rfl rfl n hn)
    obtain ⟨i, hi, rfl⟩ := List.getElem_of_mem hxm
    rcases Go.Deep.open_slice Try.underlying26 h8 with ⟨hcs, _⟩ | ⟨a, len, cap, mm, n, D, Pl, hcs, _, hl, _, hmm, hx8, hD⟩
    · simp only [List.cons.injEq, Value.slice.injEq, and_true] at hcs
      omega
    · simp only [List.cons.injEq, Value.slice.injEq, and_true] at hcs
      obtain ⟨e1, hlen2, e2⟩ := hcs
      simp only [if_true] at hmm
      subst hmm
      obtain ⟨cs', hc, ht⟩ := hD i (by omega)
      obtain ⟨b, o, e, _, hat, _⟩ := hP.bats.sl.at LB_ok i hi
      rw [e1] at e
      injection e with e
      subst e
      obtain ⟨_, hl9, hat2⟩ := World.cells?_some hc
      have hcs : cs' = baL r.bats[i] := by
        have hlc : cs'.length = 9 := by rw [hl9]; exact cellsBt
        rw [cellsBt] at hat2
        apply List.ext_getElem?
        intro j
        by_cases hj : j < 9
        · have h1 := hat2 j hj
          have hj2 : j < (baL r.bats[i]).length := hj
          have h2 := hat j (baL r.bats[i])[j] (List.getElem?_eq_getElem hj2)
          rw [Go.WideShapes.add_plain, Go.WideShapes.add_plain] at h1
          rw [← h1, List.getElem?_eq_getElem hj2]
          exact h2
        · rw [List.getElem?_eq_none (by omega), List.getElem?_eq_none (by show 9 ≤ j; omega)]
      rw [hcs] at ht
      refine batch_reach (hP.bats.each _ (List.getElem_mem hi)) ht (fun k hk => hz8 k ?_)
      rw [hx8, DataW.weights, Try.underlying26]
      exact List.mem_cons_of_mem _ (List.mem_append.2 (.inl (weights_all (List.mem_map.2 ⟨i, List.mem_range.2 (by omega), rfl⟩) k hk)))

end Go.Proofs.Ytaghbfnikcldiaa
