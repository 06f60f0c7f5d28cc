/- Arrays of 32 numbers, and what over, doubled, byteStrides, overBytes, Join and Noughts of package check answer. -/
import Derived.Test.YtgelfopjolkfdaaMem
import Derived.Laws.Rows
import Derived.Laws.Tables
import Derived.Laws.ShiftsVarLaws
namespace Go.Proofs.Ytgelfopjolkfdaa
open Go.RowKit

/-- An array of these numbers. -/
def arr (S : List Nat) : Array Value := (S.map fun x : Nat => Value.int .u32 (x : Int)).toArray

theorem arr_size (S : List Nat) : (arr S).size = S.length := by simp [arr]
theorem arr_get {S : List Nat} {k x : Nat} (h : S[k]? = some x) : (arr S)[k]? = some (.int .u32 (x : Int)) := by simp [arr, h]
theorem arr_set (S : List Nat) (k x : Nat) : (arr S).setIfInBounds k (.int .u32 (x : Int)) = arr (S.set k x) := by
  unfold arr
  rw [List.map_set]
  simp
theorem arr_one (S : List Nat) : (arr S).all (·.oneCell') = true := by
  unfold arr
  rw [Array.all_eq_true_iff_forall_mem]
  intro v hv
  simp at hv
  obtain ⟨x, _, rfl⟩ := hv
  rfl

/-- A number is answered, and what was there is as it was. -/
def NumB (n : Nat) (w : World) (e : Ending) (w' : World) : Prop := e = .returned (.int .u32 (n : Int)) ∧ Below w.heap.size w w'
/-- An array is answered. -/
def ArrB (S : List Nat) (w : World) (e : Ending) (w' : World) : Prop := e = .returned (.agg (arr S)) ∧ Below w.heap.size w w'

/-- An array's element. -/
theorem wpList_index_row {P : Program} {ops : Array Oper} {rest : List Oper} {o : Oper} {a : Act} {w : World} {Q : Exit → Act → World → Prop} (hgd : o.guard = none) (t : TypeId) (x y : Operand) (ho : o.op = .index t x y)
    (cs : Array Value) (hx : a.eval x = .agg cs) (k : Nat) (hy : a.eval y = .int .i64 (k : Int)) (n : Nat) (e : TypeId) (hu : P.underlying t = some (.array n e)) (hk : k < n)
    (hea : (isAgg e).run P w = .ok false w) (hse : (sizeOf e).run P w = .ok 1 w) (v : Value) (hv : cs[k]? = some v)
    (h : wpList P ops Q rest (a.put o.dst v) w) : wpList P ops Q (o :: rest) a w := by
  refine wpList_plain hgd fun K hK => ?_
  unfold Oper.wp execOp
  have h0 : (0 : Int) ≤ k ∧ (k : Int) < n := by omega
  simp only [ho, hx, hy, Instr.index, asIntOf, Sem.run_bind, Sem.run_pure, Result.andThen_ok, run_underlying hu w]
  rw [if_pos h0]
  simp only [hse, Sem.run_bind, Result.andThen_ok, part, hea, Int.toNat_natCast, Nat.mul_one, hv]
  exact hK _ _ h

/-- A new variable that holds an array. -/
theorem wpList_box_row {P : Program} {ops : Array Oper} {rest : List Oper} {o : Oper} {a : Act} {w : World} {Q : Exit → Act → World → Prop} (hgd : o.guard = none) (t : TypeId) (x : Operand) (ho : o.op = .box t x)
    (cs : Array Value) (hx : a.eval x = .agg cs)
    (h : wpList P ops Q rest (a.put o.dst (.pointer (some ⟨w.heap.size, 0, none⟩))) (w.alloc (.cells cs t))) : wpList P ops Q (o :: rest) a w := by
  refine wpList_plain hgd fun K hK => ?_
  unfold Oper.wp execOp
  simp only [ho, hx, Sem.run_bind, Instr.box, newVar, newRow, run_newObj_alloc, Sem.run_pure, Result.andThen_ok, Value.cells]
  exact hK _ _ h

theorem size40 {S : List Nat} (h : S.length = 32) : (Try.prog.info? 40).map (·.size) = some (arr S).size := by rw [arr_size, h]; kernel_rfl
theorem isAgg23 (w : World) : (isAgg 23).run Try.prog w = .ok false w := by kernel_rfl
theorem sizeOf23 (w : World) : (sizeOf 23).run Try.prog w = .ok 1 w := by kernel_rfl

theorem shr_bit (n k : Nat) (h : n < 4294967296) : bits .and .u32 ((n : Int) / 2 ^ k) 1 = (n : Int) / 2 ^ k % 2 := by
  have e : (n : Int) / 2 ^ k = ((n / 2 ^ k : Nat) : Int) := by simp
  rw [e, and_one _ (Nat.lt_of_le_of_lt (Nat.div_le_self _ _) h)]
  rfl

theorem bit_cast (n k : Nat) : (n : Int) / 2 ^ k % 2 = ((n / 2 ^ k % 2 : Nat) : Int) := by simp

set_option maxHeartbeats 2000000 in
set_option maxRecDepth 100000 in
theorem over_any (m n : Nat) (w : World) (hn : n < 4294967296) : Calls Try.prog 19 #[.agg (arr (strL m)), .int .u32 (n : Int)] w (NumB (halv m n) w) := by
  have hg : ∀ W : World, (W.alloc (.cells (arr (strL m)) 40)).heap[W.heap.size]? = some (.cells (arr (strL m)) 40 (0, 0)) := fun W => heap_alloc_new W _
  have HG := Lib.hid hg
  clear hg
  go_enter Try.func19, Try.ntmps19
  go_wp2_with (first | refine wpList_box_row rfl 40 _ rfl (arr (strL m)) rfl ?_ | refine wpList_load_row rfl 40 _ rfl _ rfl 40 _ (0, 0) _ (HG.out _) Try.underlying40 rfl (size40 (strL_len m)) ?_)
  go_loop [5, 9] (fun s i => ∃ (k t : Nat), k ≤ 32 ∧ i = .int .i64 k ∧ s = .int .u32 t ∧ t < 4294967296 ∧ Hid (halv m (n % 2 ^ k) = t)) (fun _ i => 32 - (intOf i).toNat)
  case atStart => exact ⟨0, 0, Nat.zero_le _, rfl, rfl, by omega, Lib.hid (by rw [Nat.pow_zero, Nat.mod_one, halv_nought])⟩
  case round =>
    obtain ⟨k, t, hk, rfl, rfl, ht, HS⟩ := hrel
    by_cases hlt : k < 32
    · have hp : halv m (2 ^ k) < 4294967296 := halv_lt m (Nat.pow_lt_pow_right (by decide) hlt : 2 ^ k < 2 ^ 32)
      have hv := Lib.hid (arr_get (strL_get m hlt))
      have HN := Lib.hid (over_step m n k)
      have hb := shr_bit n k hn
      have hmin : min k 32 = k := by omega
      generalize halv m (2 ^ k) = x at *
      have hx : bits .xor .u32 (t : Int) (x : Int) = ((t ^^^ x : Nat) : Int) := u32_xor_nat t x ht hp
      have htx := xor_lt32 ht hp
      cases ho : ((n : Int) / 2 ^ k % 2 == 1) with
      | true =>
        have HE := Lib.hid (show halv m (n % 2 ^ (k + 1)) = t ^^^ x by
          have ho' : n / 2 ^ k % 2 = 1 := by rw [bit_cast] at ho; simp only [beq_iff_eq] at ho; omega
          rw [HN.out, HS.out, if_pos ho'])
        go_wp2_with (refine wpList_index_row rfl 40 _ _ rfl (arr (strL m)) rfl k rfl 32 23 Try.underlying40 hlt (isAgg23 _) (sizeOf23 _) _ hv.out ?_)
        go_round
        case rel => exact ⟨k + 1, _, by omega, by go_num, rfl, htx, HE⟩
        case measure => simp [intOf]; omega
      | false =>
        have HE := Lib.hid (show halv m (n % 2 ^ (k + 1)) = t by
          have ho' : ¬ n / 2 ^ k % 2 = 1 := by rw [bit_cast] at ho; simp only [beq_eq_false_iff_ne, ne_eq] at ho; omega
          rw [HN.out, HS.out, if_neg ho', Nat.xor_zero])
        go_wp2_with (refine wpList_index_row rfl 40 _ _ rfl (arr (strL m)) rfl k rfl 32 23 Try.underlying40 hlt (isAgg23 _) (sizeOf23 _) _ hv.out ?_)
        go_round
        case rel => exact ⟨k + 1, _, by omega, by go_num, rfl, ht, HE⟩
        case measure => simp [intOf]; omega
    · have hk2 : k = 32 := by omega
      subst hk2
      have HE := Lib.hid (show halv m n = t by rw [← HS.out, Nat.mod_eq_of_lt (show n < 2 ^ 32 from hn)])
      go_wp2_with fail
      go_ret
      exact ⟨by rw [HE.out]; rfl, (Below.refl _ _).alloc (Nat.le_refl _) _⟩

/-- The first k of the numbers of one array, the others of none. -/
def partS (S : List Nat) (k : Nat) : List Nat := S.take k ++ List.replicate (32 - k) 0

theorem partS_len {S : List Nat} (h : S.length = 32) {k : Nat} (hk : k ≤ 32) : (partS S k).length = 32 := by
  unfold partS
  rw [List.length_append, List.length_take, List.length_replicate]
  omega
theorem partS_all {S : List Nat} (h : S.length = 32) : partS S 32 = S := by
  unfold partS
  rw [List.take_of_length_le (by omega)]
  simp
theorem partS_get {S : List Nat} (h : S.length = 32) {k : Nat} (hk : k < 32) : (partS S k)[k]? = some 0 := by
  have hl : (S.take k).length = k := by rw [List.length_take]; omega
  unfold partS
  rw [List.getElem?_append_right (by omega), hl, Nat.sub_self, List.getElem?_replicate]
  simp; omega
theorem partS_set {S : List Nat} (h : S.length = 32) {k x : Nat} (hk : k < 32) (hx : S[k]? = some x) : (partS S k).set k x = partS S (k + 1) := by
  have hl : (S.take k).length = k := by rw [List.length_take]; omega
  unfold partS
  rw [List.set_append_right _ _ (by omega), hl, Nat.sub_self, List.take_add_one, hx]
  rw [show 32 - k = (32 - (k + 1)) + 1 by omega, List.replicate_succ, List.set_cons_zero]
  simp

/-- Block g holds an array of the call's own. -/
def IsArr (w : World) (g : Nat) (S : List Nat) : Prop := w.heap[g]? = some (.cells (arr S) 40 (0, 0))

theorem IsArr.cell {w : World} {g : Nat} {S : List Nat} (h : IsArr w g S) {i x : Nat} (hi : S[i]? = some x) : w.cell? ⟨g, i, none⟩ = some (.int .u32 (x : Int)) := by
  rw [cell_of_row w g i _ _ _ h]
  exact arr_get hi
theorem IsArr.frozen {w : World} {g : Nat} {S : List Nat} (h : IsArr w g S) (i : Nat) : w.frozen? ⟨g, i, none⟩ = false := frozen_of_row w g i _ _ h
theorem IsArr.set {w : World} {g : Nat} {S : List Nat} (h : IsArr w g S) (i x : Nat) : IsArr (w.setCell ⟨g, i, none⟩ (.int .u32 (x : Int))) g (S.set i x) := by
  unfold IsArr
  rw [heap_setCell_same w g i _ _ _ h, arr_set]
theorem IsArr.below {w w' : World} {g : Nat} {S : List Nat} (h : IsArr w g S) {n : Nat} (hb : Below n w w') (hg : g < n) : IsArr w' g S := (hb.block g hg).trans h
theorem IsArr.new (w : World) (S : List Nat) : IsArr (w.alloc (.cells (arr S) 40)) w.heap.size S := heap_alloc_new w _
theorem IsArr.lt {w : World} {g : Nat} {S : List Nat} (h : IsArr w g S) : g < w.heap.size := (Array.getElem?_eq_some_iff.1 h).1

/-- Noughts. -/
def zeroS : List Nat := List.replicate 32 0
theorem zeroS_len : zeroS.length = 32 := rfl
theorem partS_zero (S : List Nat) : partS S 0 = zeroS := by simp [partS, zeroS]

theorem zero40 (w : World) : (zeroValue 40).run Try.prog w = .ok (.agg (arr zeroS)) w := by kernel_rfl

/-- A new array of noughts. -/
theorem wpList_alloc_row {ops : Array Oper} {rest : List Oper} {o : Oper} {a : Act} {w : World} {Q : Exit → Act → World → Prop} (hgd : o.guard = none) (ho : o.op = .alloc 40)
    (h : wpList Try.prog ops Q rest (a.put o.dst (.pointer (some ⟨w.heap.size, 0, none⟩))) (w.alloc (.cells (arr zeroS) 40))) : wpList Try.prog ops Q (o :: rest) a w := by
  refine wpList_plain hgd fun K hK => ?_
  unfold Oper.wp execOp
  simp only [ho, Sem.run_bind, Instr.alloc, zero40, newVar, newRow, run_newObj_alloc, Sem.run_pure, Result.andThen_ok, Value.cells]
  exact hK _ _ h

end Go.Proofs.Ytgelfopjolkfdaa
