/- Slices of bytes in memory; bytes in a row of the call's own: put behind others, read as a text; parts of a slice of bytes; what Clone of package bytes answers. -/
import Derived.Test.YtciijkognhdddaaTxBase
import Derived.Test.YtciijkognhdddaaBkPlain
import Derived.WalkKit
import Derived.WalkSpells
import Derived.ProofKit
import Derived.Below
import Derived.IntWalk
import Derived.Lib.Hide
import Derived.Laws.BitsAllLaws
import Derived.OpenShut
import Derived.ChangeSlices
import Derived.OwnWalk
import Derived.Laws.AppendOwn
import Derived.Laws.AppendOwnNone
import Derived.Laws.BytesArg
import Derived.Deep.AppendSrc
import Derived.Lib.SlBytesConst
import Derived.Lib.AppendStr
import Derived.Lib.SliceRun
import Derived.Deep.QuietTactic
import Derived.BigQuiet
namespace Go.Proofs.Ytciijkognhdddaa
set_option maxRecDepth 100000
open Go.ChangeShapes Go.WideShapes Go.ChangeAt Go.RowKit

/-- A slice reads as these bytes. -/
structure BytesP (w : World) (a : Option Addr) (cap : Nat) (l : List Nat) : Prop where
  cap : l.length ≤ cap
  len : l.length ≤ 9223372036854775807
  byte : Bytes l
  cell : l ≠ [] → ∃ b o, a = some ⟨b, o, none⟩ ∧ b < w.heap.size ∧ ∀ (j x : Nat), l[j]? = some x → w.cell? ⟨b, o + j, none⟩ = some (.int .u8 (x : Int))

theorem BytesP.below {w w' : World} {a cap l} (h : BytesP w a cap l) (hb : Below w.heap.size w w') : BytesP w' a cap l := by
  refine ⟨h.cap, h.len, h.byte, fun hne => ?_⟩
  obtain ⟨b, o, e, hlt, hc⟩ := h.cell hne
  exact ⟨b, o, e, Nat.lt_of_lt_of_le hlt hb.size, fun j x hx => (hb.cell (p := ⟨b, o + j, none⟩) hlt).trans (hc j x hx)⟩

theorem BytesP.nil (w : World) (a : Option Addr) (cap : Nat) : BytesP w a cap [] := ⟨by simp, by simp, fun _ h => by simp at h, fun h => absurd rfl h⟩


abbrev bv (x : Nat) : Value := .int .u8 (x : Int)

/-- Bytes that a call lays out itself. -/
theorem bytes_block (l : List Nat) (hl : Bytes l) (h : l.length ≤ 10000000) (W : World) (T : TypeId) (z : Nat × Nat) : BytesP (W.alloc (.cells (l.map bv).toArray T z)) (some ⟨W.heap.size, 0, none⟩) l.length l := by
  refine ⟨Nat.le_refl _, by omega, hl, fun _ => ⟨_, _, rfl, by simp, fun j x hj => ?_⟩⟩
  rw [cell_of_row _ _ _ _ _ z (heap_alloc_new W _)]
  simp [hj]

/-- A slice that is a row of bytes of the call's own, from block base on. -/
def OwnB (w : World) (base : Nat) (v : Value) (l : List Nat) : Prop := w.ownsRow base 5 1 v l.length (l.map bv)

theorem OwnB.bytes {w : World} {base : Nat} {v : Value} {l : List Nat} (h : OwnB w base v l) (hb : Bytes l) : ∃ a cap, v = .slice a l.length cap ∧ BytesP w a cap l := by
  rcases h.2 with ⟨rfl, h0⟩ | ⟨g, cap, cur, rfl, h1, h2, h3, h4, h5, h6⟩
  · have := List.eq_nil_of_length_eq_zero h0
    subst this
    exact ⟨none, 0, rfl, BytesP.nil _ _ _⟩
  · refine ⟨_, cap, rfl, h3, by unfold maxLen at h4; omega, hb, fun _ => ⟨g, 0, rfl, ?_, fun j x hx => ?_⟩⟩
    · exact (Array.getElem?_eq_some_iff.1 h2).1
    · have hj : (cur.toList.take (l.length * 1))[j]? = some (bv x) := by rw [h6, List.getElem?_map, hx]; rfl
      rw [List.getElem?_take] at hj
      split at hj
      · simp only [Array.getElem?_toList] at hj
        simp [World.cell?, h2, hj]
      · cases hj

theorem OwnB.below {w w' : World} {base : Nat} {v : Value} {l : List Nat} (h : OwnB w base v l) (hb : Below w.heap.size w w') : OwnB w' base v l := by
  refine ⟨h.1, ?_⟩
  rcases h.2 with h1 | ⟨g, cap, cur, e, h1, h2, h3⟩
  · exact .inl h1
  · exact .inr ⟨g, cap, cur, e, h1, (hb.block g (Array.getElem?_eq_some_iff.1 h2).1).trans h2, h3⟩

theorem OwnB.base {w : World} {base base' : Nat} {v : Value} {l : List Nat} (h : OwnB w base v l) (hb : base' ≤ base) : OwnB w base' v l :=
  ⟨h.1, h.2.elim Or.inl (fun ⟨g, cap, cur, hv, hg, r⟩ => Or.inr ⟨g, cap, cur, hv, Nat.le_trans hb hg, r⟩)⟩

theorem OwnB.row {w : World} {base : Nat} {v : Value} {l : List Nat} (h : OwnB w base v l) : ∀ k, v.ownBlock = some k → base ≤ k := by
  intro k hk
  rcases h.2 with ⟨rfl, _⟩ | ⟨g, cap, cur, rfl, h1, _⟩
  · cases hk
  · simp [Value.ownBlock] at hk
    omega

theorem own_fresh (w : World) (base : Nat) (hb : base ≤ w.heap.size) : OwnB (w.alloc (.cells #[] 5)) base (.slice (some ⟨w.heap.size, 0, none⟩) 0 0) [] := World.ownsRow_made w #[] 0 hb (Nat.zero_le _) (by simp)
theorem own_nil (w : World) (base : Nat) : OwnB w base (.slice none 0 0) [] := World.ownsRow_nil w base 5 1

theorem Try.info5 : (Try.prog.info? 5).map (fun i => (i.zero, i.size, i.bytes)) = some (some (.int .u8 0), 1, 1) := by kernel_rfl

theorem run_append_bytes (w : World) (base : Nat) (v : Value) (xs ys : List Nat) (hown : OwnB w base v xs) (A : Option Addr) (cA : Nat) (hy : BytesP w A cA ys) (hlen : xs.length + ys.length ≤ 10000000) (hb : base ≤ w.heap.size) (ty : TypeId) :
    ∃ v' w', (Builtin.append_ #[47, 47] ty #[v, .slice A ys.length cA]).run Try.prog w = .ok v' w' ∧ OwnB w' base v' (xs ++ ys) ∧ w.grownBy w' v.ownBlock := by
  obtain ⟨i0, hi0, hz0, hzs, hzb⟩ := info_parts Try.info5
  cases A with
  | none =>
    have hy0 : ys = [] := by
      cases ys with
      | nil => rfl
      | cons y r =>
        obtain ⟨b, o, e, _⟩ := hy.cell (by simp)
        cases e
    subst hy0
    rcases hown.2 with ⟨e, h0⟩ | ⟨g, cap, cur, e, h1, h2, h3, h4, h5, h6⟩
    · subst e
      have hx0 := List.eq_nil_of_length_eq_zero h0
      subst hx0
      refine ⟨.slice none 0 0, w, ?_, own_nil _ _, grown_refl _ _⟩
      simp [Builtin.append_, run_underlying Try.underlying47, sizeOf, typeInfo, hi0, Builtin.lenOf, Builtin.firstCells]
    · subst e
      have hsrc : Src Try.prog i0.size 47 (.slice none 0 cA) 0 [] w := Src.ofNil w Try.underlying47 cA
      have hr := run_append_room_src w 47 47 ty 5 i0 Try.underlying47 hi0 g 0 xs.length cap _ 0 [] hsrc (by omega) (by simp) (by simp)
      refine ⟨_, _, hr, ?_, grown_refl _ _⟩
      rw [List.append_nil]
      exact hown
  | some ad =>
    have hn : ∀ j u, (ys.map bv)[j]? = some u → w.cell? (ad.add j) = some u := by
      intro j u hj
      have hne : ys ≠ [] := by intro e; subst e; simp at hj
      obtain ⟨b, o, e, _, hc⟩ := hy.cell hne
      injection e with e
      subst e
      rw [Addr.add_lit]
      rw [List.getElem?_map] at hj
      obtain ⟨x, hx, rfl⟩ := Option.map_eq_some_iff.1 hj
      exact hc j x hx
    obtain ⟨v', w', hr, h1, h2, h3⟩ := run_append_own w base 47 ty 5 i0 _ 1 1 Try.underlying47 hi0 hz0 hzs hzb rfl (by decide) v xs.length (xs.map bv) hown ad ys.length cA (ys.map bv) (by simp) hn (fun u hu => by obtain ⟨x, _, rfl⟩ := List.mem_map.1 hu; rfl) (by unfold maxLen; omega) (by omega) hb
    refine ⟨v', w', hr, ?_, h2⟩
    unfold OwnB
    rw [List.map_append, List.length_append]
    exact h1

theorem wpList_append_bytes {w : World} {ops : Array Oper} {rest : List Oper} {o : Oper} {a : Act} {Q : Exit → Act → World → Prop} (hgd : o.guard = none) (s x : Operand)
    (ho : o.op = .call { callee := .builtin .append, args := #[s, x], argTypes := #[47, 47] }) (base : Nat) (v : Value) (xs ys : List Nat) (hs : a.eval s = v) (hown : OwnB w base v xs) (A : Option Addr) (cA : Nat)
    (hx : a.eval x = .slice A ys.length cA) (hy : BytesP w A cA ys) (hlen : xs.length + ys.length ≤ 10000000) (hb : base ≤ w.heap.size)
    (h : ∀ v' w', OwnB w' base v' (xs ++ ys) → w.grownBy w' v.ownBlock → wpList Try.prog ops Q rest (a.put o.dst v') w') : wpList Try.prog ops Q (o :: rest) a w := by
  refine wpList_plain hgd fun K hK => ?_
  obtain ⟨v', w', hr, h1, h2⟩ := run_append_bytes w base v xs ys hown A cA hy hlen hb o.type
  unfold Oper.wp execOp
  simp only [ho, resolve, invoke, builtin, Sem.run_bind, Sem.run_pure, Result.andThen_ok, List.map_toArray, List.map_cons, List.map_nil, hs, hx, hr]
  exact hK _ _ (h v' w' h1 h2)

/-- A text's bytes. -/
def strL (s : ByteArray) : List Nat := s.data.toList.map UInt8.toNat
theorem strL_len (s : ByteArray) : (strL s).length = s.size := by
  unfold strL
  rw [List.length_map, Array.length_toList]
  rfl
theorem strL_bytes (s : ByteArray) : Bytes (strL s) := by
  intro b hb
  obtain ⟨x, _, rfl⟩ := List.mem_map.1 hb
  exact x.toNat_lt
theorem strL_cells (s : ByteArray) : Lib.strCells s = (strL s).map bv := by
  unfold Lib.strCells strL
  rw [List.map_map]
  rfl

theorem wpList_append_text {w : World} {ops : Array Oper} {rest : List Oper} {o : Oper} {a : Act} {Q : Exit → Act → World → Prop} (hgd : o.guard = none) (s x : Operand)
    (ho : o.op = .call { callee := .builtin .append, args := #[s, x], argTypes := #[47, 9] }) (base : Nat) (v : Value) (xs : List Nat) (t : ByteArray) (hs : a.eval s = v) (hown : OwnB w base v xs)
    (hx : a.eval x = .string t) (hlen : xs.length + t.size ≤ 10000000) (hb : base ≤ w.heap.size)
    (h : ∀ v' w', OwnB w' base v' (xs ++ strL t) → w.grownBy w' v.ownBlock → wpList Try.prog ops Q rest (a.put o.dst v') w') : wpList Try.prog ops Q (o :: rest) a w := by
  obtain ⟨i0, hi0, hz0, hzs, hzb⟩ := info_parts Try.info5
  refine Lib.wpList_append_own_string w hgd s x 47 9 ho base 5 i0 Try.underlying47 Try.underlying9 hi0 hz0 hzs hzb v xs.length (xs.map bv) hs hown t hx (by unfold maxLen; omega) (by omega) hb fun v' w' h1 h2 _ => h v' w' ?_ h2
  unfold OwnB
  rw [List.map_append, List.length_append, strL_len, ← strL_cells]
  exact h1

/-- Bytes as a text. -/
def strB (l : List Nat) : ByteArray := strOfNums (l.map fun n : Nat => (n : Int))

theorem strB_size (l : List Nat) : (strB l).size = l.length := by rw [strB, strOfNums_size, List.length_map]

theorem strL_strB {l : List Nat} (h : Bytes l) : strL (strB l) = l := by
  unfold strL strB
  rw [strOfNums_data, List.map_map, List.map_map]
  conv => rhs; rw [← List.map_id l]
  apply List.map_congr_left
  intro x hx
  have := h x hx
  simp
  omega

theorem strB_inj {l m : List Nat} (hl : Bytes l) (hm : Bytes m) (e : strB l = strB m) : l = m := by rw [← strL_strB hl, ← strL_strB hm, e]

theorem run_text {w : World} {a : Option Addr} {cap : Nat} {l : List Nat} (h : BytesP w a cap l) : (convert 47 9 (.slice a l.length cap)).run Try.prog w = .ok (.string (strB l)) w := by
  cases l with
  | nil =>
    rw [List.length_nil, run_convert_bytes_string w 47 9 5 _ 0 cap Try.underlying47 Try.underlying5 Try.underlying9]
    have e : strB [] = ByteArray.empty := rfl
    rw [e]
    cases a <;> simp [Conv.bytesToString, loadCells, loadCellsFrom]
  | cons x r =>
    obtain ⟨b, o, rfl, _, hc⟩ := h.cell (by simp)
    refine run_convert_bytes_arg w 47 5 Try.underlying47 Try.underlying5 b o _ cap ((x :: r).map fun n : Nat => (n : Int)) (by simp) (fun i hi => ?_) 9 Try.underlying9
    rw [hc i _ (List.getElem?_eq_getElem hi), List.getD_eq_getElem?_getD, List.getElem?_map, List.getElem?_eq_getElem hi]
    rfl

theorem str_test {l m : List Nat} (hl : Bytes l) (hm : Bytes m) : ((strB l).toList == (strB m).toList) = (l == m) := by
  by_cases h : l = m
  · rw [str_eq (by rw [h]), beq_iff_eq.2 h]
  · rw [str_ne (fun e => h (strB_inj hl hm e)), beq_eq_false_iff_ne.2 h]

/-- s[i:]. -/
theorem slice_from {a : Option Addr} {cap : Nat} {l : List Nat} (hc : l.length ≤ cap) (k : Nat) (i : Int) (hi : i = (k : Int)) (hk : k ≤ l.length) :
    ∃ a' c', (∀ W, (Instr.slice 47 (.slice a l.length cap) (some (.int .i64 i)) none none).run Try.prog W = .ok (.slice a' (l.drop k).length c') W) ∧ ∀ W, BytesP W a cap l → BytesP W a' c' (l.drop k) := by
  subst hi
  obtain ⟨i0, hi0, hz0, hzs, hzb⟩ := info_parts Try.info5
  refine ⟨if cap = k then a else a.map (·.add k), cap - k, fun W => ?_, fun W h => ⟨by rw [List.length_drop]; omega, by have := h.len; rw [List.length_drop]; omega, fun b hb => h.byte b (List.mem_of_mem_drop hb), fun hne => ?_⟩⟩
  · have hz : (Go.sizeOf 5).run Try.prog W = .ok 1 W := by simp [Go.sizeOf, typeInfo, hi0, hzs]
    have h0 : ¬ ((k : Int) < 0) := by omega
    simp [Instr.slice, run_underlying Try.underlying47, Instr.sliceBounds, run_sliceBound, hk]
  · have hlt : k < l.length := by
      rcases Nat.lt_or_ge k l.length with h | h
      · exact h
      · exact absurd (List.drop_eq_nil_of_le h) hne
    obtain ⟨b, o, rfl, hb, hcl⟩ := h.cell (by intro e; subst e; simp at hlt)
    refine ⟨b, o + k, by rw [if_neg (by omega), Option.map_some, Addr.add_lit], hb, fun j x hj => ?_⟩
    rw [Nat.add_assoc]
    exact hcl _ _ (by rw [← List.getElem?_drop]; exact hj)

/-- s[:j]. -/
theorem slice_to {a : Option Addr} {cap : Nat} {l : List Nat} (hc : l.length ≤ cap) (k : Nat) (i : Int) (hi : i = (k : Int)) (hk : k ≤ l.length) :
    ∃ a' c', (∀ W, (Instr.slice 47 (.slice a l.length cap) none (some (.int .i64 i)) none).run Try.prog W = .ok (.slice a' (l.take k).length c') W) ∧ ∀ W, BytesP W a cap l → BytesP W a' c' (l.take k) := by
  subst hi
  obtain ⟨i0, hi0, hz0, hzs, hzb⟩ := info_parts Try.info5
  refine ⟨if cap = 0 then a else a.map (·.add 0), cap, fun W => ?_, fun W h => ⟨by rw [List.length_take]; omega, by have := h.len; rw [List.length_take]; omega, fun b hb => h.byte b (List.mem_of_mem_take hb), fun hne => ?_⟩⟩
  · have hz : (Go.sizeOf 5).run Try.prog W = .ok 1 W := by simp [Go.sizeOf, typeInfo, hi0, hzs]
    have h2 : (k : Int) ≤ (cap : Int) := by omega
    have h3 : min k l.length = k := by omega
    simp [Instr.slice, run_underlying Try.underlying47, Instr.sliceBounds, run_sliceBound, h2, h3]
  · have hlt : 0 < l.length := by
      rcases Nat.eq_zero_or_pos l.length with h | h
      · rw [List.eq_nil_of_length_eq_zero h] at hne; simp at hne
      · exact h
    obtain ⟨b, o, rfl, hb, hcl⟩ := h.cell (by intro e; subst e; simp at hlt)
    refine ⟨b, o, by rw [if_neg (by omega), Option.map_some, Addr.add_lit]; rfl, hb, fun j x hj => ?_⟩
    rw [List.getElem?_take] at hj
    split at hj
    · exact hcl _ _ hj
    · cases hj

/-- s[i:j]. -/
theorem slice_part {a : Option Addr} {cap : Nat} {l : List Nat} (hc : l.length ≤ cap) (k m : Nat) (i j : Int) (hi : i = (k : Int)) (hj : j = (m : Int)) (hk : k ≤ m) (hm : m ≤ l.length) :
    ∃ a' c', (∀ W, (Instr.slice 47 (.slice a l.length cap) (some (.int .i64 i)) (some (.int .i64 j)) none).run Try.prog W = .ok (.slice a' ((l.drop k).take (m - k)).length c') W) ∧ ∀ W, BytesP W a cap l → BytesP W a' c' ((l.drop k).take (m - k)) := by
  subst hi hj
  obtain ⟨i0, hi0, hz0, hzs, hzb⟩ := info_parts Try.info5
  refine ⟨if cap = k then a else a.map (·.add k), cap - k, fun W => ?_, fun W h => ⟨by rw [List.length_take, List.length_drop]; omega, by have := h.len; rw [List.length_take, List.length_drop]; omega, fun b hb => h.byte b (List.mem_of_mem_drop (List.mem_of_mem_take hb)), fun hne => ?_⟩⟩
  · have hz : (Go.sizeOf 5).run Try.prog W = .ok 1 W := by simp [Go.sizeOf, typeInfo, hi0, hzs]
    have h2 : (m : Int) ≤ (cap : Int) := by omega
    have h1 : (k : Int) ≤ (m : Int) := by omega
    have h3 : min (m - k) (l.length - k) = m - k := by omega
    simp [Instr.slice, run_underlying Try.underlying47, Instr.sliceBounds, run_sliceBound, h2, h1, h3]
  · have hlt : k < m ∧ k < l.length := by
      rcases Nat.lt_or_ge k m with h | h
      · exact ⟨h, by omega⟩
      · rw [show m - k = 0 by omega] at hne; simp at hne
    obtain ⟨b, o, rfl, hb, hcl⟩ := h.cell (by intro e; subst e; simp at hlt)
    refine ⟨b, o + k, by rw [if_neg (by omega), Option.map_some, Addr.add_lit], hb, fun j x hj => ?_⟩
    rw [List.getElem?_take] at hj
    split at hj
    · rw [Nat.add_assoc]
      exact hcl _ _ (by rw [← List.getElem?_drop]; exact hj)
    · cases hj

/-- Bytes in memory of the call's own are answered; all that was there stays. -/
def OwnPost (l : List Nat) (w : World) (e : Ending) (w' : World) : Prop := ∃ v, e = .returned v ∧ OwnB w' w.heap.size v l ∧ Below w.heap.size w w'

set_option maxHeartbeats 2000000 in
theorem clone_any (a : Option Addr) (cap : Nat) (l : List Nat) (w : World) (h : BytesP w a cap l) (hl : l.length ≤ 1000000) : Calls Try.prog 40 #[.slice a l.length cap] w (OwnPost l w) := by
  have q := fun (w : World) (a : Option Addr) (n c n' c' : Nat) => Lib.run_eql_slice_nil (P := Try.prog) w 47 5 a n c n' c' Try.underlying47
  have H := Lib.hid h
  cases a with
  | none =>
    have hy0 : l = [] := by
      cases l with
      | nil => rfl
      | cons y r =>
        obtain ⟨b, o, e, _⟩ := h.cell (by simp)
        cases e
    subst hy0
    clear h
    go_enter Try.func40, Try.ntmps40
    go_wp2_with fail
    go_ret
    exact ⟨_, rfl, own_nil _ _, Below.refl _ _⟩
  | some ad =>
    have OE := Lib.hid (own_fresh w w.heap.size (Nat.le_refl _))
    have bw := (Below.refl w.heap.size w).alloc (Nat.le_refl _) (.cells #[] 5)
    have G1 := Lib.hid (H.out.below bw)
    clear h
    go_enter Try.func40, Try.ntmps40
    go_wp2_with (at_builtin; go_must (refine wpList_append_bytes rfl _ _ rfl w.heap.size (.slice (some ⟨w.heap.size, 0, none⟩) 0 0) [] l rfl OE.out (some ad) cap rfl G1.out (by simp; omega) bw.size ?_))
    rintro v2 w2 o2 g2
    have bw2 := bw.grown g2 bw.size OE.out.row
    go_wp2_with fail
    go_ret
    exact ⟨_, rfl, o2, bw2⟩

end Go.Proofs.Ytciijkognhdddaa
