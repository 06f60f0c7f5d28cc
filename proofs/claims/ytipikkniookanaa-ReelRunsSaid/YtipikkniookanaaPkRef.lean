/- What the document's Frame and Take answer. -/
import Derived.Test.YtipikkniookanaaPkFrame
import Derived.Deep.DeepCutAuto
namespace Go.Proofs.Ytipikkniookanaa
set_option maxRecDepth 100000
open Go.RowKit

theorem wp_append_bytes {w : World} {o : Oper} {a : Act} {K : Act → World → Prop} {Q : Exit → Act → World → Prop} (s x : Operand)
    (ho : o.op = .call { callee := .builtin .append, args := #[s, x], argTypes := #[24, 24] }) (base : Nat) (v : Value) (xs ys : List Nat) (hs : a.eval s = v) (hown : OwnB w base v xs) (A : Option Addr) (cA : Nat)
    (hx : a.eval x = .slice A ys.length cA) (hy : BytesP w A cA ys) (hlen : xs.length + ys.length ≤ 10000000) (hb : base ≤ w.heap.size)
    (h : ∀ v' w', OwnB w' base v' (xs ++ ys) → w.grownBy w' v.ownBlock → K (a.put o.dst v') w') : o.wp Try.prog a w K Q := by
  obtain ⟨v', w', hr, h1, h2⟩ := run_append_bytes w base v xs ys hown A cA hy hlen hb o.type
  unfold Oper.wp execOp
  simp only [ho, resolve, invoke, builtin, Sem.run_bind, Sem.run_pure, Result.andThen_ok, List.map_toArray, List.map_cons, List.map_nil, hs, hx, hr]
  exact h v' w' h1 h2

theorem step_append_bytes {w : World} {ops : Array Oper} {o : Oper} {a : Act} {K : Act → World → Prop} {Q : Exit → Act → World → Prop} {E : Prop} (hgd : o.guard = none) (s x : Operand)
    (ho : o.op = .call { callee := .builtin .append, args := #[s, x], argTypes := #[24, 24] }) (base : Nat) (v : Value) (xs ys : List Nat) (hs : a.eval s = v) (hown : OwnB w base v xs) (A : Option Addr) (cA : Nat)
    (hx : a.eval x = .slice A ys.length cA) (hy : BytesP w A cA ys) (hlen : xs.length + ys.length ≤ 10000000) (hb : base ≤ w.heap.size)
    (h : ∀ v' w', OwnB w' base v' (xs ++ ys) → w.grownBy w' v.ownBlock → K (a.put o.dst v') w') :
    if Region.wanted o (yielded ops a.tmps) = true then Oper.wp Try.prog o a w K Q else E := by
  have hw : Region.wanted o (yielded ops a.tmps) = true := by simp [Region.wanted, hgd]
  rw [if_pos hw]
  exact wp_append_bytes s x ho base v xs ys hs hown A cA hx hy hlen hb h

/-- The frame that came in lies in block g. -/
def Boxed (g k : Nat) (a : Option Addr) (n cap : Nat) (w : World) : Prop := w.heap[g]? = some (.cells #[.int .u8 (k : Int), .slice a n cap] 76 (0, 0))

theorem boxed_cells {g k : Nat} {a : Option Addr} {n cap : Nat} {w : World} (h : Boxed g k a n cap w) : w.cell? ⟨g, 0, none⟩ = some (.int .u8 (k : Int)) ∧ w.cell? ⟨g, 1, none⟩ = some (.slice a n cap) := by
  unfold Boxed at h
  simp [World.cell?, h]
theorem Boxed.below {g k : Nat} {a : Option Addr} {n cap : Nat} {w w' : World} (h : Boxed g k a n cap w) (hb : Below w.heap.size w w') : Boxed g k a n cap w' := (hb.block g (Array.getElem?_eq_some_iff.1 h).1).trans h
theorem Boxed.lt {g k : Nat} {a : Option Addr} {n cap : Nat} {w : World} (h : Boxed g k a n cap w) : g < w.heap.size := (Array.getElem?_eq_some_iff.1 h).1
theorem Boxed.grown {g k : Nat} {a : Option Addr} {n cap : Nat} {w w' : World} {row : Option Nat} (h : Boxed g k a n cap w) (hg : w.grownBy w' row) (hr : ∀ j, row = some j → j ≠ g) : Boxed g k a n cap w' :=
  (hg.block g h.lt (fun e => hr g e.symm rfl)).trans h

theorem own_head (k : Nat) (W : World) : OwnB (W.alloc (.cells #[.int .u8 167, .int .u8 1, .int .u8 (k : Int)] 5)) W.heap.size (.slice (some ⟨W.heap.size, 0, none⟩) 3 3) [167, 1, k] := own_block [167, 1, k] (by simp) W

/-- The length's bytes are there. -/
def LenPost (n k : Nat) (a : Option Addr) (cap : Nat) (w : World) (Q : World → Prop) (e : Ending) (w' : World) : Prop :=
  ∃ ad c, e = .returned (.slice ad (numL n).length c) ∧ BytesP w' ad c (numL n) ∧ Boxed w.heap.size k a n cap w' ∧ Below w.heap.size w w' ∧ Q w'

theorem len_first (n k : Nat) (a : Option Addr) (cap : Nat) (w : World) (hn : n < 18446744073709551616) :
    Calls Try.prog 63 #[.int .u64 (n : Int)] (w.alloc (.cells #[.int .u8 (k : Int), .slice a n cap] 76)).drew (LenPost n k a cap w fun _ => True) := by
  have hb1 := ((Below.refl w.heap.size w).alloc (Nat.le_refl _) (.cells #[.int .u8 (k : Int), .slice a n cap] 76)).drew
  have hx : Boxed w.heap.size k a n cap (w.alloc (.cells #[.int .u8 (k : Int), .slice a n cap] 76)).drew := heap_alloc_new w _
  refine (refPkNumber_any n _ hn).mono ?_
  rintro e w' ⟨v, rfl, ho, hb⟩
  obtain ⟨ad, c, rfl, hB⟩ := ho.bytes (numL_bytes n)
  exact ⟨ad, c, rfl, hB, hx.below hb, hb1.trans (hb.mono hb1.size), trivial⟩

theorem len_behind (n k : Nat) (a : Option Addr) (cap : Nat) (w : World) (hn : n < 18446744073709551616) :
    Calls Try.prog 63 #[.int .u64 (n : Int)] ((w.alloc (.cells #[.int .u8 (k : Int), .slice a n cap] 76)).alloc (.cells #[.int .u8 167, .int .u8 1, .int .u8 (k : Int)] 5)).drew
      (LenPost n k a cap w fun w' => OwnB w' w.heap.size (.slice (some ⟨w.heap.size + 1, 0, none⟩) 3 3) [167, 1, k]) := by
  have hb0 := (Below.refl w.heap.size w).alloc (Nat.le_refl _) (.cells #[.int .u8 (k : Int), .slice a n cap] 76)
  have hb1 := (hb0.alloc hb0.size (.cells #[.int .u8 167, .int .u8 1, .int .u8 (k : Int)] 5)).drew
  have hx0 : Boxed w.heap.size k a n cap (w.alloc (.cells #[.int .u8 (k : Int), .slice a n cap] 76)) := heap_alloc_new w _
  have hx : Boxed w.heap.size k a n cap ((w.alloc (.cells #[.int .u8 (k : Int), .slice a n cap] 76)).alloc (.cells #[.int .u8 167, .int .u8 1, .int .u8 (k : Int)] 5)).drew := hx0.below ((Below.refl _ _).alloc (Nat.le_refl _) _).drew
  have ho1 := own_head k (w.alloc (.cells #[.int .u8 (k : Int), .slice a n cap] 76))
  rw [show (w.alloc (.cells #[.int .u8 (k : Int), .slice a n cap] 76)).heap.size = w.heap.size + 1 by simp] at ho1
  have ho2 : OwnB ((w.alloc (.cells #[.int .u8 (k : Int), .slice a n cap] 76)).alloc (.cells #[.int .u8 167, .int .u8 1, .int .u8 (k : Int)] 5)).drew (w.heap.size + 1) (.slice (some ⟨w.heap.size + 1, 0, none⟩) 3 3) [167, 1, k] := ho1.below (Below.refl _ _).drew
  refine (refPkNumber_any n _ hn).mono ?_
  rintro e w' ⟨v, rfl, ho, hb⟩
  obtain ⟨ad, c, rfl, hB⟩ := ho.bytes (numL_bytes n)
  exact ⟨ad, c, rfl, hB, hx.below hb, hb1.trans (hb.mono hb1.size), (ho2.below hb).base (by omega)⟩

set_option maxHeartbeats 4000000 in
theorem refFrame_any (k : Nat) (a : Option Addr) (cap : Nat) (l : List Nat) (w : World) (h : BytesP w a cap l) (hk : k < 256) (hl : l.length ≤ 65536) : Calls Try.prog 42 #[.agg #[.int .u8 (k : Int), .slice a l.length cap]] w (FramePost (frameL k l) w) := by
  have hwz : IntKind.u64.wrap (l.length : Int) = (l.length : Int) := by rw [IntKind.wrap_u64]; omega
  have hl' : decide (65536 < (l.length : Int)) = false := by simp; omega
  have H := Lib.hid h
  have L1 := Lib.hid (len_first l.length k a cap w (by omega))
  have L2 := Lib.hid (len_behind l.length k a cap w (by omega))
  have hten := numL_ten (show l.length < 18446744073709551616 by omega)
  have hnl := numL_bytes l.length
  have hhd : Bytes ([167, 1, k] ++ numL l.length) := headL_bytes hk (body := l)
  have HF := Lib.hid (show frameL k l = ((([167, 1, k] ++ numL l.length) ++ l) ++ four (crc (([167, 1, k] ++ numL l.length) ++ l))) by unfold frameL headL; simp)
  have HHD := Lib.hid hhd
  have HHL := Lib.hid (show ([167, 1, k] ++ numL l.length).length ≤ 13 by rw [List.length_append]; simp; omega)
  clear h hnl hhd
  go_enter Try.func42, Try.ntmps42
  go_wp2_with fail
  go_cut [4] (fun s4 wx => Hid (OwnB wx w.heap.size s4 ([167, 1, k] ++ numL l.length)) ∧ Hid (Boxed w.heap.size k a l.length cap wx) ∧ Hid (Below w.heap.size w wx))
  case first =>
    go_region_law (first
      | (go_simp; go_at_call 63; (first | with_reducible refine L1.out.mono ?_ | with_reducible refine L2.out.mono ?_); rintro e w4 ⟨a4, c4, rfl, hB4, x4, b4, q4⟩
         have HB4 := Lib.hid hB4
         have X4 := Lib.hid x4
         have B4 := Lib.hid b4
         have Q4 := Lib.hid q4
         obtain ⟨y0, y1⟩ := boxed_cells x4
         clear hB4 b4 q4 x4)
      | (refine step_append_bytes rfl (.tmp 11) (.tmp 16) rfl w.heap.size (.slice (some ⟨w.heap.size + 1, 0, none⟩) 3 3) [167, 1, k] (numL l.length) (by simp [Act.eval]) Q4.out a4 c4 (by simp [Act.eval]) HB4.out (by simp; omega) B4.out.size ?_
         intro v5 w5 o5 g5
         have O5 := Lib.hid o5
         have B5 := Lib.hid (B4.out.grown g5 B4.out.size Q4.out.row)
         have X5 := Lib.hid (X4.out.grown g5 (fun j hj => by simp [Value.ownBlock] at hj; omega))
         clear o5 g5)
      | (refine step_append_bytes rfl (.tmp 11) (.tmp 16) rfl w.heap.size (.slice (some ⟨w4.heap.size, 0, none⟩) 3 3) [167, 1, k] (numL l.length) (by simp [Act.eval]) ((own_head k w4).base B4.out.size) a4 c4 (by simp [Act.eval]) (HB4.out.below ((Below.refl _ _).alloc (Nat.le_refl _) _)) (by simp; omega) (B4.out.alloc B4.out.size _).size ?_
         intro v5 w5 o5 g5
         have O5 := Lib.hid o5
         have B5 := Lib.hid ((B4.out.alloc B4.out.size (.cells #[.int .u8 167, .int .u8 1, .int .u8 (k : Int)] 5)).grown g5 (B4.out.alloc B4.out.size _).size ((own_head k w4).base B4.out.size).row)
         have X5 := Lib.hid ((X4.out.below ((Below.refl _ _).alloc (Nat.le_refl _) (.cells #[.int .u8 167, .int .u8 1, .int .u8 (k : Int)] 5))).grown g5 (fun j hj => by simp [Value.ownBlock] at hj; have := X4.out.lt; omega))
         clear o5 g5))
    all_goals
      go_wp2_with fail
      go_meet
      exact ⟨O5, X5, B5⟩
  case rest =>
    obtain ⟨O5, X5, B5⟩ := hcut
    obtain ⟨y0, y1⟩ := boxed_cells X5.out
    have KB := Lib.hid (H.out.below B5.out)
    have HBY := Lib.hid (show Bytes (([167, 1, k] ++ numL l.length) ++ l) from bytes_app HHD.out H.out.byte)
    have hn := crc_lt HBY.out
    have HLL := Lib.hid (show (([167, 1, k] ++ numL l.length) ++ l).length ≤ 70000 by rw [List.length_append]; have := HHL.out; omega)
    have hhl := HHL.out
    clear L1 L2 HHL X5
    generalize hhd : [167, 1, k] ++ numL l.length = hd at *
    have hb5 := B5.out.size
    go_wp2_with (at_builtin; go_must (refine wpList_append_bytes rfl _ _ rfl w.heap.size _ hd l rfl O5.out a cap rfl KB.out (by omega) hb5 ?_))
    rintro v6 w6 o6 g6
    have B6 := Lib.hid (B5.out.grown g6 B5.out.size O5.out.row)
    obtain ⟨a6, c6, e6, hB6⟩ := o6.bytes HBY.out
    subst e6
    have O6 := Lib.hid o6
    have C1 := Lib.hid (refOf_any a6 c6 (hd ++ l) w6 hB6)
    have C2 := Lib.hid (refFour_any (crc (hd ++ l)) w6 hn)
    have hLL := HLL.out
    clear o6 g6 hB6 hhd HLL
    generalize crc (hd ++ l) = n at *
    generalize hd ++ l = R at *
    have F4 := Lib.hid (four_bytes n)
    have HF4 := Lib.hid (four_len n)
    generalize four n = fr at *
    go_wp2_with fail
    refine C1.out.mono ?_
    rintro e w' ⟨rfl, rfl⟩
    go_wp2_with fail
    refine C2.out.mono ?_
    rintro e w7 ⟨v7, rfl, o7, b7⟩
    obtain ⟨a7, c7, e7, hB7⟩ := o7.bytes F4.out
    subst e7
    have HB7 := Lib.hid hB7
    have O7 := Lib.hid (O6.out.below b7)
    have B7 := Lib.hid (B6.out.trans (b7.mono B6.out.size))
    have hb7 := B7.out.size
    clear o7 b7 hB7
    go_wp2_with (at_builtin; go_must (refine wpList_append_bytes rfl _ _ rfl w.heap.size _ R fr rfl O7.out a7 c7 rfl HB7.out (by have := HF4.out; omega) hb7 ?_))
    rintro v8 w8 o8 g8
    have B8 := Lib.hid (B7.out.grown g8 B7.out.size O7.out.row)
    have O8 := Lib.hid o8
    clear o8 g8
    go_wp2_with fail
    go_ret2
    exact ⟨_, rfl, by rw [HF.out]; exact O8.out, B8.out⟩

/-- How many bytes, as the document has it: 0, if the number has no end yet, -1, if none begins so. -/
def usedOf (r : Nat × Nat × Nat) : Int := if r.2.2 = 0 then (r.2.1 : Int) else if r.2.2 = 61 then 0 else -1

def TakePost (r : Nat × Nat × Nat) (w : World) (e : Ending) (w' : World) : Prop := e = .returned (.tuple #[.int .u64 (r.1 : Int), .int .i64 (usedOf r)]) ∧ w = w'

/-- What the document asks first of a byte. -/
theorem first_asked {k x : Nat} (hk : k ≤ 9) (hx : x < 256) :
    ((k = 9 ∧ 1 < x) ∨ (x = 0 ∧ 0 < k ∧ ¬ (k = 9 ∧ 1 < x))) ∨ ((k = 9 ∧ x = 1) ∨ (k ≠ 9 ∧ x ≠ 0) ∨ (k = 0 ∧ x = 0)) := by omega

set_option maxRecDepth 100000 in
set_option maxHeartbeats 4000000 in
theorem refTake_any (a : Option Addr) (cap : Nat) (l : List Nat) (most : Nat) (w : World) (h : BytesP w a cap l) (hm : most < 18446744073709551616) :
    Calls Try.prog 85 #[.slice a l.length cap, .int .u64 (most : Int)] w (TakePost (numAt most 0 0 l) w) := by
  have H := Lib.hid h
  have hl := h.len
  clear h
  go_enter Try.func85, Try.ntmps85
  go_wp2_with fail
  go_loop [6, 7, 8] (fun s t i => ∃ (k n wt : Nat), k ≤ l.length ∧ k ≤ 9 ∧ i = .int .i64 k ∧ s = .int .u64 n ∧ t = .int .u64 wt ∧ n ≤ most ∧ n < wt ∧ wt ≤ 9223372036854775808 ∧ (k ≤ 8 → wt ≤ 72057594037927936) ∧ Hid (wt = 2 ^ (7 * k)) ∧ Hid (numAt most 0 0 l = numAt most k n (l.drop k))) (fun _ _ i => l.length - (intOf i).toNat)
  case atStart => exact ⟨0, 0, 1, Nat.zero_le _, by decide, rfl, rfl, rfl, Nat.zero_le _, by decide, by decide, fun _ => by decide, Lib.hid rfl, Lib.hid rfl⟩
  case round =>
    obtain ⟨k, n, wt, hk, hk9, rfl, rfl, rfl, hn, hnw, hwt, hwt8, HW, HS⟩ := hrel
    by_cases hlt : k < l.length
    · obtain ⟨b1, o1, rfl, q1, r1⟩ := H.out.cell (by intro e; subst e; simp at hlt)
      have g1 := r1 k _ (List.getElem?_eq_getElem hlt)
      have p1 := H.out.cap
      have hx : l[k] < 256 := H.out.byte _ (List.getElem_mem hlt)
      have HD := Lib.hid (show numAt most 0 0 l = numAt most k n (l[k] :: l.drop (k + 1)) by rw [HS.out, List.drop_eq_getElem_cons hlt])
      generalize l[k] = x at *
      obtain ⟨low, hlow, hlo, HLOW⟩ : ∃ low : Nat, (x : Int) % 128 = (low : Int) ∧ low < 128 ∧ Hid (low = x % 128) := ⟨x % 128, by omega, by omega, rfl⟩
      have hwl : IntKind.u64.wrap (low : Int) = (low : Int) := by rw [IntKind.wrap_u64]; omega
      have HP := Lib.hid (pow7_pos k)
      have h9 : ¬ 9 < k := by omega
      clear r1
      rcases first_asked hk9 hx with hA | hB
      · have HE := Lib.hid (show numAt most 0 0 l = (0, 0, 62) by
          rw [HD.out, numAt_cons]
          split
          · rfl
          · rename_i hq
            rw [Nat.not_lt, Nat.le_div_iff_mul_le HP.out] at hq
            rcases hA with ⟨rfl, h1⟩ | ⟨h1, h2, _⟩
            · simp at hq
              by_cases hx8 : x < 128
              · omega
              · rw [if_neg hx8, if_pos]
                simp
                omega
            · rw [if_pos (by omega), if_pos ⟨h1, h2⟩])
        rcases hA with ⟨h1, h2⟩ | ⟨h1, h2, h3⟩
        · have e9 : ((k : Int) == 9) = true := by simp; omega
          have e1 : decide (1 < (x : Int)) = true := by simp; omega
          clear h1 h2
          go_wp2_with fail
          go_ret2
          exact ⟨by rw [HE.out]; rfl, rfl⟩
        · have e0 : ((x : Int) == 0) = true := by simp; omega
          have e1 : decide (1 < (x : Int)) = false := by simp; omega
          clear h1 h3
          cases e9 : ((k : Int) == 9) <;>
          · go_wp2_with fail
            go_ret2
            exact ⟨by rw [HE.out]; rfl, rfl⟩
      · have HLW := Lib.hid (show low * wt ≤ 9223372036854775808 by
          rcases hB with ⟨_, h2⟩ | ⟨h1, _⟩ | ⟨h1, _⟩
          · have : low = 1 := by rw [HLOW.out, h2]
            rw [this]; omega
          · have h8 := hwt8 (by omega)
            have : low * wt ≤ 127 * 72057594037927936 := Nat.mul_le_mul (by omega) h8
            omega
          · have h8 := hwt8 (by omega)
            have : low * wt ≤ 127 * 72057594037927936 := Nat.mul_le_mul (by omega) h8
            omega)
        obtain ⟨t, ht, htl, HT⟩ : ∃ t : Nat, (low : Int) * (wt : Int) = (t : Int) ∧ t ≤ 9223372036854775808 ∧ Hid (t = low * wt) := ⟨low * wt, by simp, HLW.out, rfl⟩
        obtain ⟨n2, hn2, hn2l, HN2⟩ : ∃ n2 : Nat, (n : Int) + (t : Int) = (n2 : Int) ∧ n2 < 18446744073709551616 ∧ Hid (n2 = n + t) := ⟨n + t, by omega, by omega, rfl⟩
        have HNE := Lib.hid (show n + x % 128 * 2 ^ (7 * k) = n2 by rw [HN2.out, HT.out, HW.out, HLOW.out])
        have HQ := Lib.hid (show (most - n) / 2 ^ (7 * k) < x % 128 ↔ most < n2 by
          rw [← HNE.out]
          have h1 : (x % 128 ≤ (most - n) / 2 ^ (7 * k)) ↔ x % 128 * 2 ^ (7 * k) ≤ most - n := Nat.le_div_iff_mul_le HP.out
          omega)
        have HZ : ¬ (x = 0 ∧ 0 < k) := by omega
        have HZ := Lib.hid HZ
        have HX9 := Lib.hid (show 128 ≤ x → k ≤ 8 by omega)
        have HB := Lib.hid (show ((((k : Int) == 9) = true ∧ decide (1 < (x : Int)) = false ∧ ((x : Int) == 0) = false) ∨ (((k : Int) == 9) = false ∧ ((x : Int) == 0) = false)) ∨ (((k : Int) == 9) = false ∧ ((x : Int) == 0) = true ∧ ¬ 0 < k) by
          simp
          omega)
        clear hB
        by_cases t1 : most < n2
        · have HE := Lib.hid (show numAt most 0 0 l = (0, 0, 62) by rw [HD.out, numAt_cons, if_pos (HQ.out.2 t1)])
          rcases HB.out with (⟨f1, f2, f3⟩ | ⟨f1, f2⟩) | ⟨f1, f2, f3⟩ <;>
          · go_wp2_with fail
            go_ret2
            exact ⟨by rw [HE.out]; rfl, rfl⟩
        · have HD2 := Lib.hid (show numAt most 0 0 l = if x < 128 then (n2, k + 1, 0) else if (most - n2) / 2 ^ (7 * k + 7) = 0 then (0, 0, 62) else numAt most (k + 1) n2 (l.drop (k + 1)) by
            rw [HD.out, numAt_cons, if_neg (fun h => t1 (HQ.out.1 h)), if_neg HZ.out, HNE.out])
          clear HD
          cases t2 : decide ((x : Int) < 128) with
          | true =>
            have HE := Lib.hid (show numAt most 0 0 l = (n2, k + 1, 0) by rw [HD2.out, if_pos (by simp at t2; omega)])
            rcases HB.out with (⟨f1, f2, f3⟩ | ⟨f1, f2⟩) | ⟨f1, f2, f3⟩ <;>
            · go_wp2_with fail
              go_ret2
              exact ⟨by rw [HE.out]; rfl, rfl⟩
          | false =>
            have hx2 : ¬ x < 128 := by simp at t2; omega
            have hk8 := HX9.out (by omega)
            have hw8 := hwt8 hk8
            obtain ⟨d2, hd2, hdl2, HDD2⟩ : ∃ d2 : Nat, (most : Int) - (n2 : Int) = (d2 : Int) ∧ d2 < 18446744073709551616 ∧ Hid (d2 = most - n2) := ⟨most - n2, by omega, by omega, rfl⟩
            obtain ⟨w2, hw2, hw2l, HW2⟩ : ∃ w2 : Nat, (wt : Int) * 128 = (w2 : Int) ∧ w2 ≤ 9223372036854775808 ∧ Hid (w2 = wt * 128) := ⟨wt * 128, by simp, by omega, rfl⟩
            have HWP := Lib.hid (show w2 = 2 ^ (7 * (k + 1)) by rw [HW2.out, HW.out, pow7s, Nat.mul_comm])
            have HZ2 := Lib.hid (show (most - n2) / 2 ^ (7 * k + 7) = 0 ↔ d2 < w2 by
              rw [HDD2.out, HWP.out, show 7 * (k + 1) = 7 * k + 7 by omega, Nat.div_eq_zero_iff_lt (Nat.pos_of_ne_zero (by simp))])
            by_cases t3 : d2 < w2
            · have HE := Lib.hid (show numAt most 0 0 l = (0, 0, 62) by rw [HD2.out, if_neg hx2, if_pos (HZ2.out.2 t3)])
              rcases HB.out with (⟨f1, f2, f3⟩ | ⟨f1, f2⟩) | ⟨f1, f2, f3⟩ <;>
              · go_wp2_with fail
                go_ret2
                exact ⟨by rw [HE.out]; rfl, rfl⟩
            · have HE := Lib.hid (show numAt most 0 0 l = numAt most (k + 1) n2 (l.drop (k + 1)) by rw [HD2.out, if_neg hx2, if_neg (fun h => t3 (HZ2.out.1 h))])
              have HLT := Lib.hid (show n2 < w2 by
                rw [HN2.out, HT.out, HW2.out]
                have : low * wt ≤ 127 * wt := Nat.mul_le_mul_right _ (by omega)
                omega)
              have HW8 := Lib.hid (show k + 1 ≤ 8 → w2 ≤ 72057594037927936 by
                intro h
                rw [HWP.out]
                exact Nat.le_trans (Nat.pow_le_pow_right (n := 2) (by decide) (show 7 * (k + 1) ≤ 56 by omega)) (by decide))
              rcases HB.out with (⟨f1, f2, f3⟩ | ⟨f1, f2⟩) | ⟨f1, f2, f3⟩ <;>
              · go_wp2_with fail
                go_round
                case rel => exact ⟨k + 1, n2, w2, by omega, by omega, by go_num, rfl, rfl, by omega, HLT.out, hw2l, HW8.out, HWP, HE⟩
                case measure => simp [intOf]; omega
    · have HE := Lib.hid (show numAt most 0 0 l = (0, 0, 61) by rw [HS.out, List.drop_eq_nil_of_le (by omega)]; rfl)
      go_wp2_with fail
      go_ret2
      exact ⟨by rw [HE.out]; rfl, rfl⟩

end Go.Proofs.Ytipikkniookanaa
