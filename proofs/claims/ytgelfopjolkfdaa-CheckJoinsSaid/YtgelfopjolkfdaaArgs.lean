/- What came in as a slice of bytes reads as a list of them; bytes put behind bytes in a row of the call's own; the chapter's example. -/
import Derived.Test.YtgelfopjolkfdaaJoin
import Derived.Test.YtgelfopjolkfdaaRows
import Derived.ProofKit
import Derived.OpenShut
import Derived.ChangeSlices
import Derived.OwnWalk
import Derived.Laws.AppendOwn
import Derived.Deep.AppendSrc
import Derived.Lib.SlBytesConst
namespace Go.Proofs.Ytgelfopjolkfdaa
open Go.ChangeShapes Go.WideShapes Go.ChangeAt Go.RowKit

theorem laidOut : laidOutB Try.prog = true := by kernel_rfl
theorem cells5 : Try.prog.cellsOf 5 = 1 := by kernel_rfl
theorem own : ownKnob Try.prog.godebug = none := by kernel_rfl

/-- A call that answers true and leaves what was there. -/
def TrueB (w : World) (e : Ending) (w' : World) : Prop := e = .returned (.bool true) ∧ Below w.heap.size w w'

abbrev bv (x : Nat) : Value := .int .u8 (x : Int)

/-- Bytes that a call lays out itself. -/
theorem bytes_block (l : List Nat) (hl : Bytes l) (h : l.length ≤ 1000000) (W : World) (T : TypeId) (z : Nat × Nat) : BytesP (W.alloc (.cells (l.map bv).toArray T z)) (some ⟨W.heap.size, 0, none⟩) l.length l := by
  refine ⟨Nat.le_refl _, by omega, hl, fun _ => ⟨_, _, rfl, by simp, fun j x hj => ?_⟩⟩
  rw [cell_of_row _ _ _ _ _ z (heap_alloc_new W _)]
  simp [hj]

theorem bytes_of_trod {H : Type} {enc : TypeId × Value → H} {W : World} {base : Nat} {v : Value} {d : DataW H} {p : List MemPlace}
    (hv : Value.okWide Try.prog W .any base 27 v) (h : DataW.Trod enc Try.prog W 0 (fun _ => true) true 27 v d p) : ∃ a cap l, v = .slice a l.length cap ∧ BytesP W a cap l ∧ l.length ≤ maxLen := by
  obtain ⟨a0, len, cap, rfl⟩ := okWide_slice Try.underlying27 hv
  obtain ⟨fuel, hf⟩ := h
  rcases open_ints Try.underlying27 Try.underlying5 cells5 hf with ⟨hcs, hx⟩ | ⟨a, len', cap', zs, hcs, _, hl, hm, hz, hx, hcell, hws⟩
  · simp [Value.cells] at hcs
    obtain ⟨rfl, rfl, rfl⟩ := hcs
    exact ⟨none, 0, [], rfl, BytesP.nil _ _ _, by simp⟩
  · simp [Value.cells] at hcs
    obtain ⟨rfl, rfl, rfl⟩ := hcs
    simp only [if_true] at hz
    have hlen : ((zs.take len).map Int.toNat).length = len := by rw [List.length_map, List.length_take]; omega
    have hmm : maxLen = 9223372036854775807 := rfl
    refine ⟨_, cap, (zs.take len).map Int.toNat, by rw [hlen], ⟨by omega, by omega, fun b hb => ?_, fun hne => ?_⟩, by omega⟩
    · obtain ⟨z, hz1, rfl⟩ := List.mem_map.1 hb
      have := bounds_u8 (hws z (List.mem_of_mem_take hz1))
      omega
    have hpos : 0 < len := by
      rcases Nat.eq_zero_or_pos len with h | h
      · subst h; simp at hne
      · exact h
    obtain ⟨b, off, spot⟩ := a
    have hspot : spot = none := by simpa [Addr.add] using World.cell?_spot (hcell 0 (by omega))
    subst hspot
    have hc0 := hcell 0 (by omega)
    refine ⟨b, off, rfl, ?_, fun j x hj => ?_⟩
    · have := World.block_lt_of_cell? W _ hc0
      simpa [Addr.add] using this
    · have hj2 := (List.getElem?_eq_some_iff.1 hj).1
      rw [List.length_map, List.length_take] at hj2
      rw [← Go.WideShapes.add_plain, hcell j (by omega)]
      rw [List.getElem?_map, List.getElem?_take] at hj
      have hjl : j < zs.length := by omega
      rw [if_pos (by omega), List.getElem?_eq_getElem hjl, Option.map_some, Option.some.injEq] at hj
      subst hj
      have := bounds_u8 (hws zs[j] (List.getElem_mem hjl))
      rw [List.getD_eq_getElem?_getD, List.getElem?_eq_getElem hjl]
      simp only [Option.getD_some]
      rw [Int.toNat_of_nonneg this.1]

theorem nat_of_u32 {a : Int} (h : (Lit.int .u32 a).wf = true) : ∃ n : Nat, a = (n : Int) ∧ n < 4294967296 := by
  simp [Lit.wf, IntKind.min, IntKind.max, IntKind.signed, IntKind.bits] at h
  exact ⟨a.toNat, by omega, by omega⟩
theorem nat_of_u8 {a : Int} (h : (Lit.int .u8 a).wf = true) : ∃ n : Nat, a = (n : Int) ∧ n < 256 := by
  have := bounds_u8 h
  exact ⟨a.toNat, by omega, by omega⟩
theorem range_of_i64 {a : Int} (h : (Lit.int .i64 a).wf = true) : -9223372036854775808 ≤ a ∧ a ≤ 9223372036854775807 := by
  simp [Lit.wf, IntKind.min, IntKind.max, IntKind.signed, IntKind.bits] at h
  omega

/-- A slice that is a row of bytes of the call's own, from block base on. -/
def OwnB (w : World) (base : Nat) (v : Value) (l : List Nat) : Prop := w.ownsRow base 5 1 v l.length (l.map bv)

theorem OwnB.bytes {w : World} {base : Nat} {v : Value} {l : List Nat} (h : OwnB w base v l) (hb : Bytes l) : ∃ a cap, v = .slice a l.length cap ∧ BytesP w a cap l := by
  rcases h.2 with ⟨rfl, h0⟩ | ⟨g, cap, cur, rfl, h1, h2, h3, h4, h5, h6⟩
  · have := List.eq_nil_of_length_eq_zero h0
    subst this
    exact ⟨none, 0, rfl, BytesP.nil _ _ _⟩
  · refine ⟨_, cap, rfl, h3, by unfold maxLen at h4; omega, hb, fun _ => ⟨g, 0, rfl, ?_, fun j x hx => ?_⟩⟩
    · exact (Array.getElem?_eq_some_iff.1 h2).1
    · have hj : (cur.toList.take (l.length * 1))[j]? = some (bv x) := by rw [h6, List.getElem?_map, hx]; rfl
      rw [List.getElem?_take] at hj
      split at hj
      · simp only [Array.getElem?_toList] at hj
        simp [World.cell?, h2, hj]
      · cases hj

theorem OwnB.below {w w' : World} {base : Nat} {v : Value} {l : List Nat} (h : OwnB w base v l) (hb : Below w.heap.size w w') : OwnB w' base v l := by
  refine ⟨h.1, ?_⟩
  rcases h.2 with h1 | ⟨g, cap, cur, e, h1, h2, h3⟩
  · exact .inl h1
  · exact .inr ⟨g, cap, cur, e, h1, (hb.block g (Array.getElem?_eq_some_iff.1 h2).1).trans h2, h3⟩

theorem OwnB.row {w : World} {base : Nat} {v : Value} {l : List Nat} (h : OwnB w base v l) : ∀ k, v.ownBlock = some k → base ≤ k := by
  intro k hk
  rcases h.2 with ⟨rfl, _⟩ | ⟨g, cap, cur, rfl, h1, _⟩
  · cases hk
  · simp [Value.ownBlock] at hk
    omega

theorem own_fresh (w : World) (base : Nat) (hb : base ≤ w.heap.size) : OwnB (w.alloc (.cells #[] 5)) base (.slice (some ⟨w.heap.size, 0, none⟩) 0 0) [] := World.ownsRow_made w #[] 0 hb (Nat.zero_le _) (by simp)

theorem Try.info5 : (Try.prog.info? 5).map (fun i => (i.zero, i.size, i.bytes)) = some (some (.int .u8 0), 1, 1) := by kernel_rfl

theorem grown_refl (W : World) (row : Option Nat) : W.grownBy W row := ⟨rfl, rfl, rfl, Nat.le_refl _, fun _ _ _ => rfl⟩

theorem run_append_bytes (w : World) (base : Nat) (v : Value) (xs ys : List Nat) (hown : OwnB w base v xs) (hv : v ≠ .slice none 0 0) (A : Option Addr) (cA : Nat) (hy : BytesP w A cA ys) (hlen : xs.length + ys.length ≤ 100000) (hb : base ≤ w.heap.size) (ty : TypeId) :
    ∃ v' w', (Builtin.append_ #[27, 27] ty #[v, .slice A ys.length cA]).run Try.prog w = .ok v' w' ∧ OwnB w' base v' (xs ++ ys) ∧ w.grownBy w' v.ownBlock ∧ v' ≠ .slice none 0 0 := by
  obtain ⟨i0, hi0, hz0, hzs, hzb⟩ := info_parts Try.info5
  cases A with
  | none =>
    have hy0 : ys = [] := by
      cases ys with
      | nil => rfl
      | cons y r =>
        obtain ⟨b, o, e, _⟩ := hy.cell (by simp)
        cases e
    subst hy0
    rcases hown.2 with ⟨e, _⟩ | ⟨g, cap, cur, e, h1, h2, h3, h4, h5, h6⟩
    · exact absurd e hv
    · subst e
      have hsrc : Src Try.prog i0.size 27 (.slice none 0 cA) 0 [] w := Src.ofNil w Try.underlying27 cA
      have hr := run_append_room_src w 27 27 ty 5 i0 Try.underlying27 hi0 g 0 xs.length cap _ 0 [] hsrc (by omega) (by simp) (by simp)
      refine ⟨_, _, hr, ?_, grown_refl _ _, by simp⟩
      rw [List.append_nil]
      exact hown
  | some ad =>
    have hn : ∀ j u, (ys.map bv)[j]? = some u → w.cell? (ad.add j) = some u := by
      intro j u hj
      have hne : ys ≠ [] := by intro e; subst e; simp at hj
      obtain ⟨b, o, e, _, hc⟩ := hy.cell hne
      injection e with e
      subst e
      rw [Addr.add_lit]
      rw [List.getElem?_map] at hj
      obtain ⟨x, hx, rfl⟩ := Option.map_eq_some_iff.1 hj
      exact hc j x hx
    obtain ⟨v', w', hr, h1, h2, h3⟩ := run_append_own w base 27 ty 5 i0 _ 1 1 Try.underlying27 hi0 hz0 hzs hzb rfl (by decide) v xs.length (xs.map bv) hown ad ys.length cA (ys.map bv) (by simp) hn (fun u hu => by obtain ⟨x, _, rfl⟩ := List.mem_map.1 hu; rfl) (by unfold maxLen; omega) (by omega) hb
    refine ⟨v', w', hr, ?_, h2, fun e => hv (h3.1 e).1⟩
    unfold OwnB
    rw [List.map_append, List.length_append]
    exact h1

theorem wpList_append_bytes {w : World} {ops : Array Oper} {rest : List Oper} {o : Oper} {a : Act} {Q : Exit → Act → World → Prop} (hgd : o.guard = none) (s x : Operand)
    (ho : o.op = .call { callee := .builtin .append, args := #[s, x], argTypes := #[27, 27] }) (base : Nat) (v : Value) (xs ys : List Nat) (hs : a.eval s = v) (hown : OwnB w base v xs) (hv : v ≠ .slice none 0 0) (A : Option Addr) (cA : Nat)
    (hx : a.eval x = .slice A ys.length cA) (hy : BytesP w A cA ys) (hlen : xs.length + ys.length ≤ 100000) (hb : base ≤ w.heap.size)
    (h : ∀ v' w', OwnB w' base v' (xs ++ ys) → w.grownBy w' v.ownBlock → v' ≠ .slice none 0 0 → wpList Try.prog ops Q rest (a.put o.dst v') w') : wpList Try.prog ops Q (o :: rest) a w := by
  refine wpList_plain hgd fun K hK => ?_
  obtain ⟨v', w', hr, h1, h2, h3⟩ := run_append_bytes w base v xs ys hown hv A cA hy hlen hb o.type
  unfold Oper.wp execOp
  simp only [ho, resolve, invoke, builtin, Sem.run_bind, Sem.run_pure, Result.andThen_ok, List.map_toArray, List.map_cons, List.map_nil, hs, hx, hr]
  exact hK _ _ (h v' w' h1 h2 h3)

theorem bytes_append {a b : List Nat} (ha : Bytes a) (hb : Bytes b) : Bytes (a ++ b) := fun x hx => by
  rcases List.mem_append.1 hx with h | h
  · exact ha x h
  · exact hb x h

theorem bytes123 : Bytes [49, 50, 51, 52, 53, 54, 55, 56, 57] := by unfold Bytes; decide
theorem crc123 : crc [49, 50, 51, 52, 53, 54, 55, 56, 57] = 3808858755 := by decide +kernel

theorem flat_one (a : Option Addr) (c : Nat) (l : List Nat) : flat [⟨a, c, l⟩] = l := by simp [flat]
theorem flat_three (a b c : Option Addr) (ca cb cc : Nat) (k l m : List Nat) : flat [⟨a, ca, k⟩, ⟨b, cb, l⟩, ⟨c, cc, m⟩] = k ++ (l ++ m) := by simp [flat]

/-- Joined by as many bytes as a list has. -/
theorem join_len (a b n : Nat) (w : World) (ha : a < 4294967296) (hb : b < 4294967296) (hn : n ≤ 9223372036854775807) : Calls Try.prog 12 #[.int .u32 (a : Int), .int .u32 (b : Int), .int .i64 (n : Int)] w (NumB (join a b n) w) := by
  have := join_any a b n w ha hb (by omega) (by omega)
  rw [Int.toNat_natCast] at this
  exact this
theorem noughts_len (n : Nat) (w : World) (hn : n ≤ 9223372036854775807) : Calls Try.prog 11 #[.int .i64 (n : Int)] w (NumB (noughts n) w) := by
  have := noughts_any n w (by omega) (by omega)
  rw [Int.toNat_natCast] at this
  exact this
theorem join_lt {a b : Nat} (n : Nat) (ha : a < 4294967296) (hb : b < 4294967296) : join a b n < 4294967296 := xor_lt32 hb (halv_lt _ ha)
theorem noughts_lt (n : Nat) : noughts n < 4294967296 := xor_lt32 (by decide) (halv_lt _ (by decide))

/-- Of one list. -/
theorem of_one {W : World} {a : Option Addr} {cap : Nat} {l : List Nat} (h : BytesP W a cap l) (T : TypeId) (N : Nat) (hN : W.heap.size = N) :
    Calls Try.prog 10 #[.slice (some ⟨N, 0, none⟩) 1 1] (W.alloc (.cells #[.slice a l.length cap] T)) (Num (crc l) (W.alloc (.cells #[.slice a l.length cap] T))) := by
  subst hN
  have := of_any _ _ _ _ (lists_one h T)
  rw [flat_one] at this
  exact this

/-- Of three lists. -/
theorem of_three {W : World} {a b c : Option Addr} {ca cb cc : Nat} {k l m : List Nat} (h1 : BytesP W a ca k) (h2 : BytesP W b cb l) (h3 : BytesP W c cc m) (T : TypeId) (N : Nat) (hN : W.heap.size = N) :
    Calls Try.prog 10 #[.slice (some ⟨N, 0, none⟩) 3 3] (W.alloc (.cells #[.slice a k.length ca, .slice b l.length cb, .slice c m.length cc] T)) (Num (crc (k ++ (l ++ m))) (W.alloc (.cells #[.slice a k.length ca, .slice b l.length cb, .slice c m.length cc] T))) := by
  subst hN
  have := of_any _ _ _ _ (lists_three h1 h2 h3 T)
  rw [flat_three] at this
  exact this

/-- A given number is answered. -/
def Fix (n : Int) (w : World) (e : Ending) (w' : World) : Prop := e = .returned (.int .u32 n) ∧ w = w'

theorem num_fix {n : Nat} {i : Int} (h : (n : Int) = i) {f : FuncId} {args : Array Value} {w w0 : World} (c : Calls Try.prog f args w (Num n w0)) : Calls Try.prog f args w (Fix i w0) := by
  subst h
  exact c

theorem crc123_int : ((crc [49, 50, 51, 52, 53, 54, 55, 56, 57] : Nat) : Int) = 3808858755 := by rw [crc123]; rfl

theorem of123 (w : World) : Calls Try.prog 10 #[.slice (some ⟨w.heap.size + 1, 0, none⟩) 1 1]
    ((w.alloc (.cells #[.int .u8 49, .int .u8 50, .int .u8 51, .int .u8 52, .int .u8 53, .int .u8 54, .int .u8 55, .int .u8 56, .int .u8 57] 5 (9, 10))).alloc (.cells #[.slice (some ⟨w.heap.size, 0, none⟩) 9 9] 27))
    (Fix 3808858755 ((w.alloc (.cells #[.int .u8 49, .int .u8 50, .int .u8 51, .int .u8 52, .int .u8 53, .int .u8 54, .int .u8 55, .int .u8 56, .int .u8 57] 5 (9, 10))).alloc (.cells #[.slice (some ⟨w.heap.size, 0, none⟩) 9 9] 27))) := by
  exact num_fix crc123_int (of_one (bytes_block _ bytes123 (by simp) w 5 (9, 10)) 27 _ (by simp))

set_option maxHeartbeats 1000000 in
/-- The chapter's example. -/
theorem alive_any (w : World) : Calls Try.prog 9 #[] w (TrueB w) := by
  have C := Lib.hid (of123 w)
  have kc := fun (w : World) (C : Array Value) (n c : Nat) => Lib.run_convert_bytes_const (P := Try.prog) w 27 5 C n c Try.underlying27 Try.underlying5
  go_enter Try.func9, Try.ntmps9
  go_wp2_with fail
  refine C.out.mono ?_
  rintro e w1 ⟨rfl, rfl⟩
  go_wp2_with fail
  go_ret
  exact ⟨rfl, ((Below.refl _ _).alloc (Nat.le_refl _) _).alloc (by simp) _⟩

end Go.Proofs.Ytgelfopjolkfdaa
