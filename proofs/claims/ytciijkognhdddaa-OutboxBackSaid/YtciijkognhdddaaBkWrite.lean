/- What Number and Text of package packet, and the document's, answer. -/
import Derived.Test.YtciijkognhdddaaBkOwn
namespace Go.Proofs.Ytciijkognhdddaa
set_option maxRecDepth 100000
open Go.ChangeShapes Go.WideShapes Go.ChangeAt Go.RowKit

theorem or_128 (n : Nat) : n % 256 ||| 128 = n % 128 + 128 := by
  have h1 : n % 128 < 2 ^ 7 := by omega
  have h2 : n % 256 ||| 128 = n % 128 ||| 128 := by
    apply Nat.eq_of_testBit_eq
    intro i
    rw [Nat.testBit_or, Nat.testBit_or, show 256 = 2 ^ 8 from rfl, show 128 = 2 ^ 7 from rfl, Nat.testBit_mod_two_pow, Nat.testBit_mod_two_pow, Nat.testBit_two_pow]
    by_cases hi : 7 = i
    · simp [hi]
    · by_cases h7 : i < 7
      · simp [h7, show i < 8 by omega]
      · simp [hi, h7, show ¬ i < 8 by omega]
  rw [h2, Nat.or_comm, show 128 = 2 ^ 7 * 1 from rfl, ← Nat.two_pow_add_eq_or_of_lt h1]
  omega

theorem byte_of (m : Nat) : IntKind.u8.wrap (m : Int) = ((m % 256 : Nat) : Int) := by rw [IntKind.wrap_u8]; omega

/-- Bytes put behind those that are the call's own from base on. -/
def PutPost (l : List Nat) (base : Nat) (w : World) (e : Ending) (w' : World) : Prop := ∃ v, e = .returned v ∧ OwnB w' base v l ∧ Below base w w'

theorem one_block (x : Nat) (hx : x < 256) (W : World) : BytesP (W.alloc (.cells #[.int .u8 (x : Int)] 5)) (some ⟨W.heap.size, 0, none⟩) 1 [x] := bytes_block [x] (by intro b hb; simp at hb; omega) (by simp) W 5 (0, 0)

theorem own_alloc {w : World} {base : Nat} {v : Value} {l : List Nat} (h : OwnB w base v l) (o : Obj) : OwnB (w.alloc o) base v l := h.below ((Below.refl _ _).alloc (Nat.le_refl _) o)

set_option maxHeartbeats 4000000 in
theorem appendNumber_any (v : Value) (n base : Nat) (l : List Nat) (w : World) (h : OwnB w base v l) (hn : n < 18446744073709551616) (hl : l.length ≤ 1000000) (hb : base ≤ w.heap.size) : Calls Try.prog 58 #[v, .int .u64 (n : Int)] w (PutPost (l ++ numL n) base w) := by
  have H := Lib.hid h
  have hten := numL_ten hn
  clear h
  go_enter Try.func58, Try.ntmps58
  go_wp2_with fail
  go_loopw [0, 1] (fun s i wr => ∃ (m : Nat) (acc : List Nat), i = .int .u64 m ∧ m < 18446744073709551616 ∧ Hid (OwnB wr base s acc) ∧ Hid (acc ++ numL m = l ++ numL n) ∧ Below base w wr) (fun _ i _ => (intOf i).toNat)
  case atStart => exact ⟨n, l, rfl, hn, H, Lib.hid rfl, Below.refl _ _⟩
  case round =>
    obtain ⟨m, acc, rfl, hm, HO, HS, hbw⟩ := hrel
    have hac : acc.length ≤ 1000010 := by
      have := congrArg List.length HS.out
      rw [List.length_append, List.length_append] at this
      omega
    have hbs := Nat.le_trans hb hbw.size
    by_cases hlt : 128 ≤ m
    · have HN := Lib.hid (show (acc ++ [m % 128 + 128]) ++ numL (m / 128) = l ++ numL n by rw [← HS.out, numL_great hlt, List.append_assoc]; rfl)
      obtain ⟨x, c, hw8, hor, hc, HC⟩ : ∃ x c : Nat, IntKind.u8.wrap (m : Int) = (x : Int) ∧ bits .or .u8 (x : Int) 128 = (c : Int) ∧ c < 256 ∧ Hid (m % 128 + 128 = c) := by
        refine ⟨m % 256, m % 128 + 128, byte_of m, ?_, by omega, rfl⟩
        have := u8_or_nat (m % 256) 128 (by omega) (by decide)
        rw [or_128] at this
        exact this
      rw [HC.out] at HN
      have O1 := Lib.hid (own_alloc HO.out (.cells #[.int .u8 (c : Int)] 5))
      have B1 := Lib.hid (one_block c hc wr)
      have bw := hbw.alloc hbs (.cells #[.int .u8 (c : Int)] 5)
      have hbs1 := Nat.le_trans hb bw.size
      have hlt' : decide (128 ≤ (m : Int)) = true := by simp; omega
      go_wp2_with (at_builtin; go_must (refine wpList_append_bytes rfl _ _ rfl base _ acc [c] rfl O1.out _ 1 rfl B1.out (by simp; omega) hbs1 ?_))
      rintro v2 w2 o2 g2
      have bw2 := bw.grown g2 hbs1 O1.out.row
      have O2 := Lib.hid o2
      clear o2 g2
      go_wp2_with fail
      go_roundw
      case rel => exact ⟨m / 128, acc ++ [c], by go_num, by omega, O2, HN, bw2⟩
      case measure => simp [intOf]; omega
    · have HN := Lib.hid (show l ++ numL n = acc ++ [m] by rw [← HS.out, numL_small (by omega)])
      have hw8 : IntKind.u8.wrap (m : Int) = (m : Int) := by rw [IntKind.wrap_u8]; omega
      have O1 := Lib.hid (own_alloc HO.out (.cells #[.int .u8 (m : Int)] 5))
      have B1 := Lib.hid (one_block m (by omega) wr)
      have bw := hbw.alloc hbs (.cells #[.int .u8 (m : Int)] 5)
      have hbs1 := Nat.le_trans hb bw.size
      have hlt' : decide (128 ≤ (m : Int)) = false := by simp; omega
      go_wp2_with (at_builtin; go_must (refine wpList_append_bytes rfl _ _ rfl base _ acc [m] rfl O1.out _ 1 rfl B1.out (by simp; omega) hbs1 ?_))
      rintro v2 w2 o2 g2
      have bw2 := bw.grown g2 hbs1 O1.out.row
      go_wp2_with fail
      go_ret
      exact ⟨_, rfl, by rw [HN.out]; exact o2, bw2⟩

/-- A slice reads as these numbers of 64 bits. -/
structure NumsP (w : World) (a : Option Addr) (cap : Nat) (l : List Nat) : Prop where
  cap : l.length ≤ cap
  len : l.length ≤ 9223372036854775807
  num : ∀ n ∈ l, n < 18446744073709551616
  cell : l ≠ [] → ∃ b o, a = some ⟨b, o, none⟩ ∧ b < w.heap.size ∧ ∀ (j x : Nat), l[j]? = some x → w.cell? ⟨b, o + j, none⟩ = some (.int .u64 (x : Int))

theorem NumsP.below {w w' : World} {a cap l} (h : NumsP w a cap l) (hb : Below w.heap.size w w') : NumsP w' a cap l := by
  refine ⟨h.cap, h.len, h.num, fun hne => ?_⟩
  obtain ⟨b, o, e, hlt, hc⟩ := h.cell hne
  exact ⟨b, o, e, Nat.lt_of_lt_of_le hlt hb.size, fun j x hx => (hb.cell (p := ⟨b, o + j, none⟩) hlt).trans (hc j x hx)⟩

theorem nums_one (n : Nat) (hn : n < 18446744073709551616) (W : World) : NumsP (W.alloc (.cells #[.int .u64 (n : Int)] 69)) (some ⟨W.heap.size, 0, none⟩) 1 [n] := by
  refine ⟨by simp, by simp, fun b hb => by simp at hb; omega, fun _ => ⟨_, _, rfl, by simp, fun j x hj => ?_⟩⟩
  match j, hj with
  | 0, hj => simp at hj; subst hj; simp
  | _ + 1, hj => simp at hj

/-- Numbers' bytes. -/
def numsL (l : List Nat) : List Nat := (l.map numL).flatten
/-- A text's bytes, with how many they are ahead. -/
def textL (s : ByteArray) : List Nat := numL s.size ++ strL s
def textsL (l : List ByteArray) : List Nat := (l.map textL).flatten

theorem numsL_drop {l : List Nat} {k : Nat} (h : k < l.length) : numsL (l.drop k) = numL l[k] ++ numsL (l.drop (k + 1)) := by
  unfold numsL
  rw [List.drop_eq_getElem_cons h, List.map_cons, List.flatten_cons]
theorem textsL_drop {l : List ByteArray} {k : Nat} (h : k < l.length) : textsL (l.drop k) = textL l[k] ++ textsL (l.drop (k + 1)) := by
  unfold textsL
  rw [List.drop_eq_getElem_cons h, List.map_cons, List.flatten_cons]
theorem numsL_bytes (l : List Nat) : Bytes (numsL l) := by
  intro b hb
  obtain ⟨x, hx, hb⟩ := List.mem_flatten.1 hb
  obtain ⟨n, _, rfl⟩ := List.mem_map.1 hx
  exact numL_bytes n b hb
theorem textL_bytes (s : ByteArray) : Bytes (textL s) := bytes_app (numL_bytes _) (strL_bytes _)
theorem textsL_bytes (l : List ByteArray) : Bytes (textsL l) := by
  intro b hb
  obtain ⟨x, hx, hb⟩ := List.mem_flatten.1 hb
  obtain ⟨n, _, rfl⟩ := List.mem_map.1 hx
  exact textL_bytes n b hb

set_option maxHeartbeats 4000000 in
theorem number_any (a a2 : Option Addr) (cap cap2 : Nat) (l ns : List Nat) (w : World) (h : BytesP w a cap l) (h2 : NumsP w a2 cap2 ns) (hl : l.length ≤ 100000) (hn : ns.length ≤ 1000) :
    Calls Try.prog 44 #[.slice a l.length cap, .slice a2 ns.length cap2] w (OwnPost (l ++ numsL ns) w) := by
  have H := Lib.hid h
  have H2 := Lib.hid h2
  have C := Lib.hid (clone_any a cap l w h (by omega))
  clear h h2
  go_enter Try.func44, Try.ntmps44
  go_wp2_with fail
  refine C.out.mono ?_
  rintro e w1 ⟨v1, rfl, o1, b1⟩
  have O1 := Lib.hid o1
  clear o1
  go_wp2_with fail
  go_loopw [5, 12] (fun s i wr => ∃ (k : Nat) (acc : List Nat), k ≤ ns.length ∧ i = .int .i64 k ∧ Hid (OwnB wr w.heap.size s acc) ∧ Hid (acc ++ numsL (ns.drop k) = l ++ numsL ns) ∧ acc.length ≤ l.length + 10 * k ∧ Below w.heap.size w wr) (fun _ i _ => ns.length - (intOf i).toNat)
  case atStart => exact ⟨0, l, Nat.zero_le _, rfl, O1, Lib.hid rfl, by omega, b1⟩
  case round =>
    obtain ⟨k, acc, hk, rfl, HO, HS, hac, hbw⟩ := hrel
    by_cases hlt : k < ns.length
    · obtain ⟨b, o, rfl, hb, hc⟩ := (H2.out.below hbw).cell (by intro e; subst e; simp at hlt)
      have g1 := hc k _ (List.getElem?_eq_getElem hlt)
      have p1 := H2.out.cap
      have hx := H2.out.num _ (List.getElem_mem hlt)
      have HD := Lib.hid (numsL_drop hlt)
      generalize ns[k] = x at *
      have hten := numL_ten hx
      have HN := Lib.hid (show (acc ++ numL x) ++ numsL (ns.drop (k + 1)) = l ++ numsL ns by rw [← HS.out, HD.out, List.append_assoc])
      have HL := Lib.hid (show (acc ++ numL x).length ≤ l.length + 10 * (k + 1) by rw [List.length_append]; omega)
      have C2 := Lib.hid (appendNumber_any _ x w.heap.size acc wr HO.out hx (by omega) hbw.size)
      clear hc
      go_wp2_with fail
      refine C2.out.mono ?_
      rintro e w2 ⟨v2, rfl, o2, b2⟩
      have O2 := Lib.hid o2
      have bb := hbw.trans b2
      clear o2 b2
      go_wp2_with fail
      go_roundw
      case rel => exact ⟨k + 1, _, by omega, by go_num, O2, HN, HL.out, bb⟩
      case measure => simp [intOf]; omega
    · have HE := Lib.hid (show l ++ numsL ns = acc by rw [← HS.out, List.drop_eq_nil_of_le (by omega)]; exact List.append_nil _)
      go_wp2_with fail
      go_ret
      exact ⟨_, rfl, by rw [HE.out]; exact HO.out, hbw⟩

set_option maxHeartbeats 4000000 in
theorem text_any (a a2 : Option Addr) (cap cap2 : Nat) (l : List Nat) (ns : List ByteArray) (w : World) (h : BytesP w a cap l) (h2 : StrsP w a2 cap2 ns) (hl : l.length ≤ 100000) (hn : ns.length ≤ 1000) (hs : ∀ s ∈ ns, s.size ≤ 800) :
    Calls Try.prog 45 #[.slice a l.length cap, .slice a2 ns.length cap2] w (OwnPost (l ++ textsL ns) w) := by
  have H := Lib.hid h
  have H2 := Lib.hid h2
  have HZ := Lib.hid hs
  have C := Lib.hid (clone_any a cap l w h (by omega))
  clear h h2 hs
  go_enter Try.func45, Try.ntmps45
  go_wp2_with fail
  refine C.out.mono ?_
  rintro e w1 ⟨v1, rfl, o1, b1⟩
  have O1 := Lib.hid o1
  clear o1
  go_wp2_with fail
  go_loopw [5, 12] (fun s i wr => ∃ (k : Nat) (acc : List Nat), k ≤ ns.length ∧ i = .int .i64 k ∧ Hid (OwnB wr w.heap.size s acc) ∧ Hid (acc ++ textsL (ns.drop k) = l ++ textsL ns) ∧ acc.length ≤ l.length + 810 * k ∧ Below w.heap.size w wr) (fun _ i _ => ns.length - (intOf i).toNat)
  case atStart => exact ⟨0, l, Nat.zero_le _, rfl, O1, Lib.hid rfl, by omega, b1⟩
  case round =>
    obtain ⟨k, acc, hk, rfl, HO, HS, hac, hbw⟩ := hrel
    by_cases hlt : k < ns.length
    · obtain ⟨b, o, rfl, hb, hc⟩ := (H2.out.below hbw).cell (by intro e; subst e; simp at hlt)
      have g1 := hc k _ (List.getElem?_eq_getElem hlt)
      have p1 := H2.out.cap
      have hx := HZ.out _ (List.getElem_mem hlt)
      have HD := Lib.hid (textsL_drop hlt)
      generalize ns[k] = x at *
      have hten := numL_ten (show x.size < 18446744073709551616 by omega)
      have HX := Lib.hid (strL_len x)
      have HN := Lib.hid (show ((acc ++ numL x.size) ++ strL x) ++ textsL (ns.drop (k + 1)) = l ++ textsL ns by rw [← HS.out, HD.out, textL, List.append_assoc, List.append_assoc, List.append_assoc])
      have HL1 := Lib.hid (show (acc ++ numL x.size).length ≤ l.length + 810 * k + 10 by rw [List.length_append]; omega)
      have HL := Lib.hid (show ((acc ++ numL x.size) ++ strL x).length ≤ l.length + 810 * (k + 1) by rw [List.length_append, HX.out]; have := HL1.out; omega)
      have C2 := Lib.hid (appendNumber_any _ x.size w.heap.size acc wr HO.out (by omega) (by omega) hbw.size)
      have hwz : IntKind.u64.wrap (x.size : Int) = (x.size : Int) := by rw [IntKind.wrap_u64]; omega
      clear hc
      go_wp2_with fail
      refine C2.out.mono ?_
      rintro e w2 ⟨v2, rfl, o2, b2⟩
      have O2 := Lib.hid o2
      have bb := hbw.trans b2
      clear o2 b2
      go_wp2_with (at_builtin; go_must (refine wpList_append_text rfl _ _ rfl w.heap.size _ _ x rfl O2.out rfl (by have := HL1.out; omega) bb.size ?_))
      rintro v3 w3 o3 g3
      have bw3 := bb.grown g3 bb.size O2.out.row
      have O3 := Lib.hid o3
      clear o3 g3
      go_wp2_with fail
      go_roundw
      case rel => exact ⟨k + 1, _, by omega, by go_num, O3, Lib.hid (by rw [← List.append_assoc]; exact HN.out), by rw [← List.append_assoc]; exact HL.out, bw3⟩
      case measure => simp [intOf]; omega
    · have HE := Lib.hid (show l ++ textsL ns = acc by rw [← HS.out, List.drop_eq_nil_of_le (by omega)]; exact List.append_nil _)
      go_wp2_with fail
      go_ret
      exact ⟨_, rfl, by rw [HE.out]; exact HO.out, hbw⟩

set_option maxHeartbeats 4000000 in
theorem refNumber_any (n : Nat) (w : World) (hn : n < 18446744073709551616) : Calls Try.prog 46 #[.int .u64 (n : Int)] w (OwnPost (numL n) w) := by
  have hten := numL_ten hn
  have OE := Lib.hid (own_fresh w w.heap.size (Nat.le_refl _))
  have bw := (Below.refl w.heap.size w).alloc (Nat.le_refl _) (.cells #[] 5)
  go_enter Try.func46, Try.ntmps46
  go_wp2_with fail
  go_loopw [0, 3] (fun i s wr => ∃ (m : Nat) (acc : List Nat), i = .int .u64 m ∧ m < 18446744073709551616 ∧ Hid (OwnB wr w.heap.size s acc) ∧ Hid (acc ++ numL m = numL n) ∧ Below w.heap.size w wr) (fun i _ _ => (intOf i).toNat)
  case atStart => exact ⟨n, [], rfl, hn, OE, Lib.hid rfl, bw⟩
  case round =>
    clear OE bw
    obtain ⟨m, acc, rfl, hm, HO, HS, hbw⟩ := hrel
    have hac : acc.length ≤ 10 := by
      have := congrArg List.length HS.out
      rw [List.length_append] at this
      omega
    have hbs := hbw.size
    by_cases hlt : 128 ≤ m
    · have HN := Lib.hid (show (acc ++ [m % 128 + 128]) ++ numL (m / 128) = numL n by rw [← HS.out, numL_great hlt, List.append_assoc]; rfl)
      obtain ⟨c, hw8, hc, HC⟩ : ∃ c : Nat, IntKind.u8.wrap (128 + (m : Int) % 128) = (c : Int) ∧ c < 256 ∧ Hid (m % 128 + 128 = c) := ⟨m % 128 + 128, by rw [IntKind.wrap_u8]; omega, by omega, rfl⟩
      rw [HC.out] at HN
      have O1 := Lib.hid (own_alloc HO.out (.cells #[.int .u8 (c : Int)] 5))
      have B1 := Lib.hid (one_block c hc wr)
      have bw := hbw.alloc hbs (.cells #[.int .u8 (c : Int)] 5)
      have hbs1 := bw.size
      have hlt' : decide (128 ≤ (m : Int)) = true := by simp; omega
      go_wp2_with (at_builtin; go_must (refine wpList_append_bytes rfl _ _ rfl w.heap.size _ acc [c] rfl O1.out _ 1 rfl B1.out (by simp; omega) hbs1 ?_))
      rintro v2 w2 o2 g2
      have bw2 := bw.grown g2 hbs1 O1.out.row
      have O2 := Lib.hid o2
      clear o2 g2
      go_wp2_with fail
      go_roundw
      case rel => exact ⟨m / 128, acc ++ [c], by go_num, by omega, O2, HN, bw2⟩
      case measure => simp [intOf]; omega
    · have HN := Lib.hid (show numL n = acc ++ [m] by rw [← HS.out, numL_small (by omega)])
      have hw8 : IntKind.u8.wrap (m : Int) = (m : Int) := by rw [IntKind.wrap_u8]; omega
      have O1 := Lib.hid (own_alloc HO.out (.cells #[.int .u8 (m : Int)] 5))
      have B1 := Lib.hid (one_block m (by omega) wr)
      have bw := hbw.alloc hbs (.cells #[.int .u8 (m : Int)] 5)
      have hbs1 := bw.size
      have hlt' : decide (128 ≤ (m : Int)) = false := by simp; omega
      go_wp2_with (at_builtin; go_must (refine wpList_append_bytes rfl _ _ rfl w.heap.size _ acc [m] rfl O1.out _ 1 rfl B1.out (by simp; omega) hbs1 ?_))
      rintro v2 w2 o2 g2
      have bw2 := bw.grown g2 hbs1 O1.out.row
      go_wp2_with fail
      go_ret
      exact ⟨_, rfl, by rw [HN.out]; exact o2, bw2⟩

set_option maxHeartbeats 4000000 in
theorem refText_any (s : ByteArray) (w : World) (hs : s.size ≤ 100000) : Calls Try.prog 47 #[.string s] w (OwnPost (textL s) w) := by
  have hten := numL_ten (show s.size < 18446744073709551616 by omega)
  have C := Lib.hid (refNumber_any s.size w (by omega))
  have hwz : IntKind.u64.wrap (s.size : Int) = (s.size : Int) := by rw [IntKind.wrap_u64]; omega
  go_enter Try.func47, Try.ntmps47
  go_wp2_with fail
  refine C.out.mono ?_
  rintro e w1 ⟨v1, rfl, o1, b1⟩
  have O1 := Lib.hid o1
  clear o1
  go_wp2_with (at_builtin; go_must (refine wpList_append_text rfl _ _ rfl w.heap.size _ _ s rfl O1.out rfl (by omega) b1.size ?_))
  rintro v2 w2 o2 g2
  have bw2 := b1.grown g2 b1.size O1.out.row
  go_wp2_with fail
  go_ret
  exact ⟨_, rfl, o2, bw2⟩

end Go.Proofs.Ytciijkognhdddaa
