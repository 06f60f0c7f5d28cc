/- What Number, number, seal and agree of package packet, Concat of package slices and the document's Number and Four answer. -/
import Derived.Test.YtipikkniookanaaPkMem
import Derived.Deep.QuietTactic
import Derived.BigQuiet
import Derived.Lib.AppendZeros
namespace Go.Proofs.Ytipikkniookanaa
set_option maxRecDepth 100000
open Go.RowKit

theorem or_128 (n : Nat) : n % 256 ||| 128 = n % 128 + 128 := by
  have h1 : n % 128 < 2 ^ 7 := by omega
  have h2 : n % 256 ||| 128 = n % 128 ||| 128 := by
    apply Nat.eq_of_testBit_eq
    intro i
    rw [Nat.testBit_or, Nat.testBit_or, show 256 = 2 ^ 8 from rfl, show 128 = 2 ^ 7 from rfl, Nat.testBit_mod_two_pow, Nat.testBit_mod_two_pow, Nat.testBit_two_pow]
    by_cases hi : 7 = i
    · simp [hi]
    · by_cases h7 : i < 7
      · simp [h7, show i < 8 by omega]
      · simp [hi, h7, show ¬ i < 8 by omega]
  rw [h2, Nat.or_comm, show 128 = 2 ^ 7 * 1 from rfl, ← Nat.two_pow_add_eq_or_of_lt h1]
  omega

theorem byte_of (m : Nat) : IntKind.u8.wrap (m : Int) = ((m % 256 : Nat) : Int) := by rw [IntKind.wrap_u8]; omega

/-- Bytes put behind those that are the call's own from base on. -/
def PutPost (l : List Nat) (base : Nat) (w : World) (e : Ending) (w' : World) : Prop := ∃ v, e = .returned v ∧ OwnB w' base v l ∧ Below base w w'

theorem one_block (x : Nat) (hx : x < 256) (W : World) : BytesP (W.alloc (.cells #[.int .u8 (x : Int)] 5)) (some ⟨W.heap.size, 0, none⟩) 1 [x] := bytes_block [x] (by intro b hb; simp at hb; omega) (by simp) W 5 (0, 0)

theorem own_alloc {w : World} {base : Nat} {v : Value} {l : List Nat} (h : OwnB w base v l) (o : Obj) : OwnB (w.alloc o) base v l := h.below ((Below.refl _ _).alloc (Nat.le_refl _) o)

set_option maxHeartbeats 4000000 in
theorem appendNumber_any (v : Value) (n base : Nat) (l : List Nat) (w : World) (h : OwnB w base v l) (hn : n < 18446744073709551616) (hl : l.length ≤ 1000000) (hb : base ≤ w.heap.size) : Calls Try.prog 60 #[v, .int .u64 (n : Int)] w (PutPost (l ++ numL n) base w) := by
  have H := Lib.hid h
  have hten := numL_ten hn
  clear h
  go_enter Try.func60, Try.ntmps60
  go_wp2_with fail
  go_loopw [0, 1] (fun s i wr => ∃ (m : Nat) (acc : List Nat), i = .int .u64 m ∧ m < 18446744073709551616 ∧ Hid (OwnB wr base s acc) ∧ Hid (acc ++ numL m = l ++ numL n) ∧ Below base w wr) (fun _ i _ => (intOf i).toNat)
  case atStart => exact ⟨n, l, rfl, hn, H, Lib.hid rfl, Below.refl _ _⟩
  case round =>
    obtain ⟨m, acc, rfl, hm, HO, HS, hbw⟩ := hrel
    have hac : acc.length ≤ 1000010 := by
      have := congrArg List.length HS.out
      rw [List.length_append, List.length_append] at this
      omega
    have hbs := Nat.le_trans hb hbw.size
    by_cases hlt : 128 ≤ m
    · have HN := Lib.hid (show (acc ++ [m % 128 + 128]) ++ numL (m / 128) = l ++ numL n by rw [← HS.out, numL_great hlt, List.append_assoc]; rfl)
      obtain ⟨x, c, hw8, hor, hc, HC⟩ : ∃ x c : Nat, IntKind.u8.wrap (m : Int) = (x : Int) ∧ bits .or .u8 (x : Int) 128 = (c : Int) ∧ c < 256 ∧ Hid (m % 128 + 128 = c) := by
        refine ⟨m % 256, m % 128 + 128, byte_of m, ?_, by omega, rfl⟩
        have := u8_or_nat (m % 256) 128 (by omega) (by decide)
        rw [or_128] at this
        exact this
      rw [HC.out] at HN
      have O1 := Lib.hid (own_alloc HO.out (.cells #[.int .u8 (c : Int)] 5))
      have B1 := Lib.hid (one_block c hc wr)
      have bw := hbw.alloc hbs (.cells #[.int .u8 (c : Int)] 5)
      have hbs1 := Nat.le_trans hb bw.size
      have hlt' : decide (128 ≤ (m : Int)) = true := by simp; omega
      go_wp2_with (at_builtin; go_must (refine wpList_append_bytes rfl _ _ rfl base _ acc [c] rfl O1.out _ 1 rfl B1.out (by simp; omega) hbs1 ?_))
      rintro v2 w2 o2 g2
      have bw2 := bw.grown g2 hbs1 O1.out.row
      have O2 := Lib.hid o2
      clear o2 g2
      go_wp2_with fail
      go_roundw
      case rel => exact ⟨m / 128, acc ++ [c], by go_num, by omega, O2, HN, bw2⟩
      case measure => simp [intOf]; omega
    · have HN := Lib.hid (show l ++ numL n = acc ++ [m] by rw [← HS.out, numL_small (by omega)])
      have hw8 : IntKind.u8.wrap (m : Int) = (m : Int) := by rw [IntKind.wrap_u8]; omega
      have O1 := Lib.hid (own_alloc HO.out (.cells #[.int .u8 (m : Int)] 5))
      have B1 := Lib.hid (one_block m (by omega) wr)
      have bw := hbw.alloc hbs (.cells #[.int .u8 (m : Int)] 5)
      have hbs1 := Nat.le_trans hb bw.size
      have hlt' : decide (128 ≤ (m : Int)) = false := by simp; omega
      go_wp2_with (at_builtin; go_must (refine wpList_append_bytes rfl _ _ rfl base _ acc [m] rfl O1.out _ 1 rfl B1.out (by simp; omega) hbs1 ?_))
      rintro v2 w2 o2 g2
      have bw2 := bw.grown g2 hbs1 O1.out.row
      go_wp2_with fail
      go_ret
      exact ⟨_, rfl, by rw [HN.out]; exact o2, bw2⟩

/-- A slice reads as these numbers of 64 bits. -/
structure NumsP (w : World) (a : Option Addr) (cap : Nat) (l : List Nat) : Prop where
  cap : l.length ≤ cap
  len : l.length ≤ 9223372036854775807
  num : ∀ n ∈ l, n < 18446744073709551616
  cell : l ≠ [] → ∃ b o, a = some ⟨b, o, none⟩ ∧ b < w.heap.size ∧ ∀ (j x : Nat), l[j]? = some x → w.cell? ⟨b, o + j, none⟩ = some (.int .u64 (x : Int))

theorem NumsP.below {w w' : World} {a cap l} (h : NumsP w a cap l) (hb : Below w.heap.size w w') : NumsP w' a cap l := by
  refine ⟨h.cap, h.len, h.num, fun hne => ?_⟩
  obtain ⟨b, o, e, hlt, hc⟩ := h.cell hne
  exact ⟨b, o, e, Nat.lt_of_lt_of_le hlt hb.size, fun j x hx => (hb.cell (p := ⟨b, o + j, none⟩) hlt).trans (hc j x hx)⟩

theorem nums_one (n : Nat) (hn : n < 18446744073709551616) (W : World) : NumsP (W.alloc (.cells #[.int .u64 (n : Int)] 50)) (some ⟨W.heap.size, 0, none⟩) 1 [n] := by
  refine ⟨by simp, by simp, fun b hb => by simp at hb; omega, fun _ => ⟨_, _, rfl, by simp, fun j x hj => ?_⟩⟩
  match j, hj with
  | 0, hj => simp at hj; subst hj; simp
  | _ + 1, hj => simp at hj

/-- A slice reads as these texts. -/
structure StrsP (w : World) (a : Option Addr) (cap : Nat) (l : List ByteArray) : Prop where
  cap : l.length ≤ cap
  len : l.length ≤ 9223372036854775807
  cell : l ≠ [] → ∃ b o, a = some ⟨b, o, none⟩ ∧ b < w.heap.size ∧ ∀ (j : Nat) (x : ByteArray), l[j]? = some x → w.cell? ⟨b, o + j, none⟩ = some (.string x)

theorem StrsP.below {w w' : World} {a cap l} (h : StrsP w a cap l) (hb : Below w.heap.size w w') : StrsP w' a cap l := by
  refine ⟨h.cap, h.len, fun hne => ?_⟩
  obtain ⟨b, o, e, hlt, hc⟩ := h.cell hne
  exact ⟨b, o, e, Nat.lt_of_lt_of_le hlt hb.size, fun j x hx => (hb.cell (p := ⟨b, o + j, none⟩) hlt).trans (hc j x hx)⟩

/-- Numbers' bytes. -/
def numsL (l : List Nat) : List Nat := (l.map numL).flatten
/-- A text's bytes, with how many they are ahead. -/
def textL (s : ByteArray) : List Nat := numL s.size ++ strL s
def textsL (l : List ByteArray) : List Nat := (l.map textL).flatten

theorem numsL_drop {l : List Nat} {k : Nat} (h : k < l.length) : numsL (l.drop k) = numL l[k] ++ numsL (l.drop (k + 1)) := by
  unfold numsL
  rw [List.drop_eq_getElem_cons h, List.map_cons, List.flatten_cons]
theorem textsL_drop {l : List ByteArray} {k : Nat} (h : k < l.length) : textsL (l.drop k) = textL l[k] ++ textsL (l.drop (k + 1)) := by
  unfold textsL
  rw [List.drop_eq_getElem_cons h, List.map_cons, List.flatten_cons]
theorem numsL_bytes (l : List Nat) : Bytes (numsL l) := by
  intro b hb
  obtain ⟨x, hx, hb⟩ := List.mem_flatten.1 hb
  obtain ⟨n, _, rfl⟩ := List.mem_map.1 hx
  exact numL_bytes n b hb
theorem textL_bytes (s : ByteArray) : Bytes (textL s) := bytes_app (numL_bytes _) (strL_bytes _)
theorem textsL_bytes (l : List ByteArray) : Bytes (textsL l) := by
  intro b hb
  obtain ⟨x, hx, hb⟩ := List.mem_flatten.1 hb
  obtain ⟨n, _, rfl⟩ := List.mem_map.1 hx
  exact textL_bytes n b hb

set_option maxHeartbeats 4000000 in
theorem pkNumber_any (a a2 : Option Addr) (cap cap2 : Nat) (l ns : List Nat) (w : World) (h : BytesP w a cap l) (h2 : NumsP w a2 cap2 ns) (hl : l.length ≤ 100000) (hn : ns.length ≤ 1000) :
    Calls Try.prog 40 #[.slice a l.length cap, .slice a2 ns.length cap2] w (OwnPost (l ++ numsL ns) w) := by
  have H := Lib.hid h
  have H2 := Lib.hid h2
  have C := Lib.hid (bclone_any a cap l w h (by omega))
  clear h h2
  go_enter Try.func40, Try.ntmps40
  go_wp2_with fail
  refine C.out.mono ?_
  rintro e w1 ⟨v1, rfl, o1, b1⟩
  have O1 := Lib.hid o1
  clear o1
  go_wp2_with fail
  go_loopw [5, 12] (fun s i wr => ∃ (k : Nat) (acc : List Nat), k ≤ ns.length ∧ i = .int .i64 k ∧ Hid (OwnB wr w.heap.size s acc) ∧ Hid (acc ++ numsL (ns.drop k) = l ++ numsL ns) ∧ acc.length ≤ l.length + 10 * k ∧ Below w.heap.size w wr) (fun _ i _ => ns.length - (intOf i).toNat)
  case atStart => exact ⟨0, l, Nat.zero_le _, rfl, O1, Lib.hid rfl, by omega, b1⟩
  case round =>
    obtain ⟨k, acc, hk, rfl, HO, HS, hac, hbw⟩ := hrel
    by_cases hlt : k < ns.length
    · obtain ⟨b, o, rfl, hb, hc⟩ := (H2.out.below hbw).cell (by intro e; subst e; simp at hlt)
      have g1 := hc k _ (List.getElem?_eq_getElem hlt)
      have p1 := H2.out.cap
      have hx := H2.out.num _ (List.getElem_mem hlt)
      have HD := Lib.hid (numsL_drop hlt)
      generalize ns[k] = x at *
      have hten := numL_ten hx
      have HN := Lib.hid (show (acc ++ numL x) ++ numsL (ns.drop (k + 1)) = l ++ numsL ns by rw [← HS.out, HD.out, List.append_assoc])
      have HL := Lib.hid (show (acc ++ numL x).length ≤ l.length + 10 * (k + 1) by rw [List.length_append]; omega)
      have C2 := Lib.hid (appendNumber_any _ x w.heap.size acc wr HO.out hx (by omega) hbw.size)
      clear hc
      go_wp2_with fail
      refine C2.out.mono ?_
      rintro e w2 ⟨v2, rfl, o2, b2⟩
      have O2 := Lib.hid o2
      have bb := hbw.trans b2
      clear o2 b2
      go_wp2_with fail
      go_roundw
      case rel => exact ⟨k + 1, _, by omega, by go_num, O2, HN, HL.out, bb⟩
      case measure => simp [intOf]; omega
    · have HE := Lib.hid (show l ++ numsL ns = acc by rw [← HS.out, List.drop_eq_nil_of_le (by omega)]; exact List.append_nil _)
      go_wp2_with fail
      go_ret
      exact ⟨_, rfl, by rw [HE.out]; exact HO.out, hbw⟩

set_option maxHeartbeats 4000000 in
theorem refPkNumber_any (n : Nat) (w : World) (hn : n < 18446744073709551616) : Calls Try.prog 63 #[.int .u64 (n : Int)] w (OwnPost (numL n) w) := by
  have hten := numL_ten hn
  have OE := Lib.hid (own_fresh w w.heap.size (Nat.le_refl _))
  have bw := (Below.refl w.heap.size w).alloc (Nat.le_refl _) (.cells #[] 5)
  go_enter Try.func63, Try.ntmps63
  go_wp2_with fail
  go_loopw [0, 3] (fun i s wr => ∃ (m : Nat) (acc : List Nat), i = .int .u64 m ∧ m < 18446744073709551616 ∧ Hid (OwnB wr w.heap.size s acc) ∧ Hid (acc ++ numL m = numL n) ∧ Below w.heap.size w wr) (fun i _ _ => (intOf i).toNat)
  case atStart => exact ⟨n, [], rfl, hn, OE, Lib.hid rfl, bw⟩
  case round =>
    clear OE bw
    obtain ⟨m, acc, rfl, hm, HO, HS, hbw⟩ := hrel
    have hac : acc.length ≤ 10 := by
      have := congrArg List.length HS.out
      rw [List.length_append] at this
      omega
    have hbs := hbw.size
    by_cases hlt : 128 ≤ m
    · have HN := Lib.hid (show (acc ++ [m % 128 + 128]) ++ numL (m / 128) = numL n by rw [← HS.out, numL_great hlt, List.append_assoc]; rfl)
      obtain ⟨c, hw8, hc, HC⟩ : ∃ c : Nat, IntKind.u8.wrap (128 + (m : Int) % 128) = (c : Int) ∧ c < 256 ∧ Hid (m % 128 + 128 = c) := ⟨m % 128 + 128, by rw [IntKind.wrap_u8]; omega, by omega, rfl⟩
      rw [HC.out] at HN
      have O1 := Lib.hid (own_alloc HO.out (.cells #[.int .u8 (c : Int)] 5))
      have B1 := Lib.hid (one_block c hc wr)
      have bw := hbw.alloc hbs (.cells #[.int .u8 (c : Int)] 5)
      have hbs1 := bw.size
      have hlt' : decide (128 ≤ (m : Int)) = true := by simp; omega
      go_wp2_with (at_builtin; go_must (refine wpList_append_bytes rfl _ _ rfl w.heap.size _ acc [c] rfl O1.out _ 1 rfl B1.out (by simp; omega) hbs1 ?_))
      rintro v2 w2 o2 g2
      have bw2 := bw.grown g2 hbs1 O1.out.row
      have O2 := Lib.hid o2
      clear o2 g2
      go_wp2_with fail
      go_roundw
      case rel => exact ⟨m / 128, acc ++ [c], by go_num, by omega, O2, HN, bw2⟩
      case measure => simp [intOf]; omega
    · have HN := Lib.hid (show numL n = acc ++ [m] by rw [← HS.out, numL_small (by omega)])
      have hw8 : IntKind.u8.wrap (m : Int) = (m : Int) := by rw [IntKind.wrap_u8]; omega
      have O1 := Lib.hid (own_alloc HO.out (.cells #[.int .u8 (m : Int)] 5))
      have B1 := Lib.hid (one_block m (by omega) wr)
      have bw := hbw.alloc hbs (.cells #[.int .u8 (m : Int)] 5)
      have hbs1 := bw.size
      have hlt' : decide (128 ≤ (m : Int)) = false := by simp; omega
      go_wp2_with (at_builtin; go_must (refine wpList_append_bytes rfl _ _ rfl w.heap.size _ acc [m] rfl O1.out _ 1 rfl B1.out (by simp; omega) hbs1 ?_))
      rintro v2 w2 o2 g2
      have bw2 := bw.grown g2 hbs1 O1.out.row
      go_wp2_with fail
      go_ret
      exact ⟨_, rfl, by rw [HN.out]; exact o2, bw2⟩

/-- A number, how many bytes it has and the error's number are answered; nothing has turned. -/
def NumPost (r : Nat × Nat × Nat) (w : World) (e : Ending) (w' : World) : Prop := e = .returned (.tuple #[.int .u64 (r.1 : Int), .int .i64 (r.2.1 : Int), .int .i64 (r.2.2 : Int)]) ∧ w = w'

set_option maxRecDepth 100000 in
set_option maxHeartbeats 4000000 in
theorem numberAt_any (a : Option Addr) (cap : Nat) (l : List Nat) (most : Nat) (w : World) (h : BytesP w a cap l) (hm : most < 18446744073709551616) :
    Calls Try.prog 89 #[.slice a l.length cap, .int .u64 (most : Int)] w (NumPost (numAt most 0 0 l) w) := by
  have H := Lib.hid h
  have hl := h.len
  clear h
  go_enter Try.func89, Try.ntmps89
  go_wp2_with fail
  go_loop [7, 14] (fun s i => ∃ (k n : Nat), k ≤ l.length ∧ k ≤ 9 ∧ i = .int .i64 k ∧ s = .int .u64 n ∧ n ≤ most ∧ Hid (n < 2 ^ (7 * k)) ∧ Hid (numAt most 0 0 l = numAt most k n (l.drop k))) (fun _ i => l.length - (intOf i).toNat)
  case atStart => exact ⟨0, 0, Nat.zero_le _, by decide, rfl, rfl, Nat.zero_le _, Lib.hid (by simp), Lib.hid rfl⟩
  case round =>
    obtain ⟨k, n, hk, hk9, rfl, rfl, hn, HN, HS⟩ := hrel
    by_cases hlt : k < l.length
    · obtain ⟨b1, o1, rfl, q1, r1⟩ := H.out.cell (by intro e; subst e; simp at hlt)
      have g1 := r1 k _ (List.getElem?_eq_getElem hlt)
      have p1 := H.out.cap
      have hx : l[k] < 256 := H.out.byte _ (List.getElem_mem hlt)
      have HD := Lib.hid (show numAt most 0 0 l = numAt most k n (l[k] :: l.drop (k + 1)) by rw [HS.out, List.drop_eq_getElem_cons hlt])
      generalize l[k] = x at *
      obtain ⟨low, hlow, hlo, HLOW⟩ : ∃ low : Nat, (x : Int) % 128 = (low : Int) ∧ low < 128 ∧ Hid (low = x % 128) := ⟨x % 128, by omega, by omega, rfl⟩
      obtain ⟨sh, hsh, hsh63, HSH⟩ : ∃ sh : Nat, 7 * (k : Int) = (sh : Int) ∧ sh ≤ 63 ∧ Hid (sh = 7 * k) := ⟨7 * k, by omega, by omega, rfl⟩
      obtain ⟨d, hd, hdl, HDD⟩ : ∃ d : Nat, (most : Int) - (n : Int) = (d : Int) ∧ d < 18446744073709551616 ∧ Hid (d = most - n) := ⟨most - n, by omega, by omega, rfl⟩
      have hmin : min sh 64 = sh := by omega
      obtain ⟨q, hq, HQ⟩ : ∃ q : Nat, (d : Int) / 2 ^ sh = (q : Int) ∧ Hid (q = (most - n) / 2 ^ (7 * k)) := ⟨d / 2 ^ sh, by simp, by rw [HDD.out, HSH.out]; rfl⟩
      have hwl : IntKind.u64.wrap (low : Int) = (low : Int) := by rw [IntKind.wrap_u64]; omega
      clear r1
      by_cases t1 : q < low
      · have HE := Lib.hid (show numAt most 0 0 l = (0, 0, 62) by rw [HD.out, numAt_cons, ← HQ.out, ← HLOW.out, if_pos t1])
        go_wp2_with fail
        go_ret3
        exact ⟨by rw [HE.out]; rfl, rfl⟩
      · have HT1 := Lib.hid t1
        have HP := Lib.hid (pow7_pos k)
        have HB := Lib.hid (show low * 2 ^ (7 * k) ≤ most - n by
          have := HT1.out
          rw [HQ.out, Nat.not_lt, Nat.le_div_iff_mul_le HP.out] at this
          exact this)
        obtain ⟨t, ht, htl, HT⟩ : ∃ t : Nat, IntKind.u64.wrap ((low : Int) * 2 ^ sh) = (t : Int) ∧ t < 18446744073709551616 ∧ Hid (t = low * 2 ^ (7 * k)) := by
          have hb := HB.out
          refine ⟨low * 2 ^ (7 * k), ?_, by omega, rfl⟩
          rw [HSH.out, show (low : Int) * 2 ^ (7 * k) = ((low * 2 ^ (7 * k) : Nat) : Int) by simp, IntKind.wrap_u64]
          omega
        obtain ⟨n2, hor, hn2, HN2⟩ : ∃ n2 : Nat, bits .or .u64 (n : Int) (t : Int) = (n2 : Int) ∧ n2 ≤ most ∧ Hid (n2 = n + x % 128 * 2 ^ (7 * k)) := by
          have hb := HB.out
          refine ⟨n + low * 2 ^ (7 * k), ?_, by omega, by rw [HLOW.out]; rfl⟩
          rw [u64_or_nat n t (by omega) htl, HT.out, or_shl HN.out]
        have HD2 := Lib.hid (show numAt most 0 0 l = if x < 128 then (if x = 0 ∧ 0 < k then (0, 0, 62) else (n2, k + 1, 0)) else if (most - n2) / 2 ^ (7 * k + 7) = 0 then (0, 0, 62) else numAt most (k + 1) n2 (l.drop (k + 1)) by
          rw [HD.out, numAt_cons, ← HQ.out, ← HLOW.out, if_neg HT1.out, HLOW.out, ← HN2.out])
        clear HD
        cases t2 : decide ((x : Int) < 128) with
        | true =>
          have hx2 : x < 128 := by simp at t2; omega
          by_cases t3 : x = 0 ∧ 0 < k
          · have HE := Lib.hid (show numAt most 0 0 l = (0, 0, 62) by rw [HD2.out, if_pos hx2, if_pos t3])
            obtain ⟨t3, t4⟩ := t3
            have t3' : ((x : Int) == 0) = true := by simp; omega
            have t4' : decide (0 < (k : Int)) = true := by simp; omega
            clear t3
            go_wp2_with fail
            go_ret3
            exact ⟨by rw [HE.out]; rfl, rfl⟩
          · have HE := Lib.hid (show numAt most 0 0 l = (n2, k + 1, 0) by rw [HD2.out, if_pos hx2, if_neg t3])
            by_cases t4 : x = 0
            · have t5 : ¬ 0 < k := by omega
              have t4' : ((x : Int) == 0) = true := by simp; omega
              clear t3 t4
              go_wp2_with fail
              go_ret3
              exact ⟨by rw [HE.out]; rfl, rfl⟩
            · have t4' : ((x : Int) == 0) = false := by simp; omega
              clear t3
              go_wp2_with fail
              go_ret3
              exact ⟨by rw [HE.out]; rfl, rfl⟩
        | false =>
          have hx2 : ¬ x < 128 := by simp at t2; omega
          obtain ⟨d2, hd2, hdl2, HDD2⟩ : ∃ d2 : Nat, (most : Int) - (n2 : Int) = (d2 : Int) ∧ d2 < 18446744073709551616 ∧ Hid (d2 = most - n2) := ⟨most - n2, by omega, by omega, rfl⟩
          obtain ⟨s7, hs7, hs70, HS7⟩ : ∃ s7 : Nat, (sh : Int) + 7 = (s7 : Int) ∧ s7 ≤ 70 ∧ Hid (s7 = 7 * k + 7) := ⟨sh + 7, by omega, by omega, by rw [HSH.out]; rfl⟩
          obtain ⟨m7, hm7, HM7⟩ : ∃ m7 : Nat, min s7 64 = m7 ∧ Hid (m7 = min s7 64) := ⟨min s7 64, rfl, rfl⟩
          obtain ⟨q2, hq2, hq3, HQ2⟩ : ∃ q2 : Nat, (d2 : Int) / 2 ^ s7 = (q2 : Int) ∧ (d2 : Int) / 2 ^ m7 = (q2 : Int) ∧ Hid (q2 = (most - n2) / 2 ^ (7 * k + 7)) := by
            refine ⟨d2 / 2 ^ s7, by simp, ?_, by rw [HDD2.out, HS7.out]; rfl⟩
            rcases Nat.le_total s7 64 with h | h
            · rw [HM7.out, Nat.min_eq_left h]; simp
            · rw [HM7.out, Nat.min_eq_right h]
              have e1 : d2 / 2 ^ s7 = 0 := Nat.div_eq_of_lt (Nat.lt_of_lt_of_le hdl2 (Nat.pow_le_pow_right (n := 2) (by decide) h))
              rw [e1]
              omega
          have HZ := Lib.hid (show (most - n2) / 2 ^ (7 * k + 7) = 0 ↔ q2 = 0 by rw [HQ2.out])
          cases t6 : ((q2 : Int) == 0) with
          | true =>
            have HE := Lib.hid (show numAt most 0 0 l = (0, 0, 62) by rw [HD2.out, if_neg hx2, if_pos (HZ.out.2 (by simp at t6; omega))])
            go_wp2_with fail
            go_ret3
            exact ⟨by rw [HE.out]; rfl, rfl⟩
          | false =>
            have hq0 : ¬ (most - n2) / 2 ^ (7 * k + 7) = 0 := fun h => by have := HZ.out.1 h; simp at t6; omega
            have HE := Lib.hid (show numAt most 0 0 l = numAt most (k + 1) n2 (l.drop (k + 1)) by rw [HD2.out, if_neg hx2, if_neg hq0])
            have hk8 : k + 1 ≤ 9 := by
              by_cases h8 : k ≤ 8
              · omega
              · have hk : k = 9 := by omega
                subst hk
                exfalso
                apply hq0
                simp
                omega
            have HL := Lib.hid (show n2 < 2 ^ (7 * (k + 1)) by
              rw [HN2.out, pow7s]
              have h1 := HN.out
              have h2 : x % 128 * 2 ^ (7 * k) ≤ 127 * 2 ^ (7 * k) := Nat.mul_le_mul_right _ (by omega)
              omega)
            clear hq0
            go_wp2_with fail
            go_round
            case rel => exact ⟨k + 1, n2, by omega, hk8, by go_num, rfl, hn2, HL, HE⟩
            case measure => simp [intOf]; omega
    · have HE := Lib.hid (show numAt most 0 0 l = (0, 0, 61) by rw [HS.out, List.drop_eq_nil_of_le (by omega)]; rfl)
      go_wp2_with fail
      go_ret3
      exact ⟨by rw [HE.out]; rfl, rfl⟩

/-- A test is answered, and nothing has turned. -/
def BoolSame (b : Bool) (w : World) (e : Ending) (w' : World) : Prop := e = .returned (.bool b) ∧ w = w'
/-- Bytes that a call lays out itself are its own. -/
theorem own_block (l : List Nat) (h : l.length ≤ 10000000) (W : World) : OwnB (W.alloc (.cells (l.map bv).toArray 5)) W.heap.size (.slice (some ⟨W.heap.size, 0, none⟩) l.length l.length) l :=
  ⟨by simp, .inr ⟨W.heap.size, l.length, (l.map bv).toArray, rfl, Nat.le_refl _, heap_alloc_new W _, Nat.le_refl _, by unfold maxLen; omega, by simp, by simp [List.take_of_length_le]⟩⟩
theorem four_block (a b c d : Nat) (W : World) : OwnB (W.alloc (.cells #[.int .u8 (a : Int), .int .u8 (b : Int), .int .u8 (c : Int), .int .u8 (d : Int)] 5)) W.heap.size (.slice (some ⟨W.heap.size, 0, none⟩) 4 4) [a, b, c, d] := own_block [a, b, c, d] (by simp) W

theorem below_drewN {B : Nat} {a w : World} (h : Below B a w) (q : Nat) : Below B a (w.drewN q) := ⟨h.os, h.tape, h.output, h.size, h.block⟩
theorem drewN_below (w : World) (q : Nat) : Below w.heap.size w (w.drewN q) := below_drewN (Below.refl _ _) q

theorem quiet_same {f : FuncId} {args : Array Value} {w : World} {n : Nat} {b : Bool} (h : Calls Try.prog f args (w.drewN n) (BoolSame b (w.drewN n))) : Calls Try.prog f args (w.drewN n) fun e w'' => e = .returned (.bool b) ∧ ∃ m, w'' = w.drewN m :=
  h.mono fun _ _ ⟨he, hm⟩ => ⟨he, n, hm.symm⟩

set_option maxHeartbeats 2000000 in
theorem equal_any (a b : Option Addr) (ca cb : Nat) (l m : List Nat) (w : World) (h1 : BytesP w a ca l) (h2 : BytesP w b cb m) : Calls Try.prog 91 #[.slice a l.length ca, .slice b m.length cb] w (BoolSame (l == m) w) := by
  have t1 := run_text h1
  have t2 := run_text h2
  have ts := str_test h1.byte h2.byte
  clear h1 h2
  go_enter Try.func91, Try.ntmps91
  go_wp2_with fail
  go_ret
  exact ⟨rfl, rfl⟩

set_option maxHeartbeats 2000000 in
theorem refFour_any (n : Nat) (w : World) (hn : n < 4294967296) : Calls Try.prog 64 #[.int .u32 (n : Int)] w (OwnPost (four n) w) := by
  have e0 : IntKind.u8.wrap ((n : Int) % 256) = ((n % 256 : Nat) : Int) := by rw [IntKind.wrap_u8]; omega
  have e1 : IntKind.u8.wrap ((n : Int) / 256 % 256) = ((n / 256 % 256 : Nat) : Int) := by rw [IntKind.wrap_u8]; omega
  have e2 : IntKind.u8.wrap ((n : Int) / 65536 % 256) = ((n / 65536 % 256 : Nat) : Int) := by rw [IntKind.wrap_u8]; omega
  have e3 : IntKind.u8.wrap ((n : Int) / 16777216) = ((n / 16777216 % 256 : Nat) : Int) := by rw [IntKind.wrap_u8]; omega
  have B := Lib.hid (four_block (n % 256) (n / 256 % 256) (n / 65536 % 256) (n / 16777216 % 256) w)
  have F := Lib.hid (show four n = [n % 256, n / 256 % 256, n / 65536 % 256, n / 16777216 % 256] from rfl)
  generalize n % 256 = c0 at *
  generalize n / 256 % 256 = c1 at *
  generalize n / 65536 % 256 = c2 at *
  generalize n / 16777216 % 256 = c3 at *
  go_enter Try.func64, Try.ntmps64
  go_wp2_with fail
  go_ret
  exact ⟨_, rfl, by rw [F.out]; exact B.out, (Below.refl _ _).alloc (Nat.le_refl _) _⟩

set_option maxHeartbeats 2000000 in
theorem seal_any (a : Option Addr) (cap : Nat) (ls : List Part) (w : World) (h : ListsP w a cap ls) (hb : Bytes (flat ls)) : Calls Try.prog 78 #[.slice a ls.length cap] w (OwnPost (four (crc (flat ls))) w) := by
  have C := Lib.hid (of_any a cap ls w h)
  have hn := crc_lt hb
  clear h hb
  generalize crc (flat ls) = n at *
  have e0 : IntKind.u8.wrap (n : Int) = ((n % 256 : Nat) : Int) := by rw [IntKind.wrap_u8]; omega
  have e1 : IntKind.u8.wrap ((n : Int) / 256) = ((n / 256 % 256 : Nat) : Int) := by rw [IntKind.wrap_u8]; omega
  have e2 : IntKind.u8.wrap ((n : Int) / 65536) = ((n / 65536 % 256 : Nat) : Int) := by rw [IntKind.wrap_u8]; omega
  have e3 : IntKind.u8.wrap ((n : Int) / 16777216) = ((n / 16777216 % 256 : Nat) : Int) := by rw [IntKind.wrap_u8]; omega
  have B := Lib.hid (four_block (n % 256) (n / 256 % 256) (n / 65536 % 256) (n / 16777216 % 256) w)
  have F := Lib.hid (show four n = [n % 256, n / 256 % 256, n / 65536 % 256, n / 16777216 % 256] from rfl)
  generalize n % 256 = c0 at *
  generalize n / 256 % 256 = c1 at *
  generalize n / 65536 % 256 = c2 at *
  generalize n / 16777216 % 256 = c3 at *
  go_enter Try.func78, Try.ntmps78
  go_wp2_with fail
  refine C.out.mono ?_
  rintro e w1 ⟨rfl, rfl⟩
  go_wp2_with fail
  go_ret
  exact ⟨_, rfl, by rw [F.out]; exact B.out, (Below.refl _ _).alloc (Nat.le_refl _) _⟩

set_option maxHeartbeats 2000000 in
theorem agree_any (a b : Option Addr) (ca cb : Nat) (l m : List Nat) (w : World) (h1 : BytesP w a ca l) (h2 : BytesP w b cb m) : Calls Try.prog 88 #[.slice a l.length ca, .slice b m.length cb] w (BoolB (agreeL l m) w) := by
  have HA := Lib.hid (show agreeL l m = (l.take (min l.length m.length) == m.take (min l.length m.length)) from rfl)
  by_cases hlt : m.length < l.length
  · rw [Nat.min_eq_right (by omega)] at HA
    obtain ⟨a', ca', s1, k1⟩ := slice_to (a := a) h1.cap m.length (m.length : Int) rfl (by omega)
    obtain ⟨b', cb', s2, k2⟩ := slice_to (a := b) h2.cap m.length (m.length : Int) rfl (by omega)
    have C := Lib.hid (fun n => equal_any a' b' ca' cb' _ _ (w.drewN n) ((k1 w h1).below (drewN_below w n)) ((k2 w h2).below (drewN_below w n)))
    clear k1 k2 h1 h2
    generalize l.take m.length = l' at *
    generalize m.take m.length = m' at *
    go_enter Try.func88, Try.ntmps88
    go_wp2_with fail
    go_quiet ((go_at_call 91; exact quiet_same (C.out _)))
    go_wp2_with fail
    go_ret
    exact ⟨by rw [HA.out]; rfl, drewN_below _ _⟩
  · rw [Nat.min_eq_left (by omega)] at HA
    obtain ⟨a', ca', s1, k1⟩ := slice_to (a := a) h1.cap l.length (l.length : Int) rfl (by omega)
    obtain ⟨b', cb', s2, k2⟩ := slice_to (a := b) h2.cap l.length (l.length : Int) rfl (by omega)
    have C := Lib.hid (fun n => equal_any a' b' ca' cb' _ _ (w.drewN n) ((k1 w h1).below (drewN_below w n)) ((k2 w h2).below (drewN_below w n)))
    clear k1 k2 h1 h2
    generalize l.take l.length = l' at *
    generalize m.take l.length = m' at *
    go_enter Try.func88, Try.ntmps88
    go_wp2_with fail
    go_quiet ((go_at_call 91; exact quiet_same (C.out _)))
    go_wp2_with fail
    go_ret
    exact ⟨by rw [HA.out]; rfl, drewN_below _ _⟩

set_option maxHeartbeats 2000000 in
theorem grow_nil (n : Nat) (w : World) (h0 : 0 < n) (hn : n ≤ 10000000) : Calls Try.prog 75 #[.slice none 0 0, .int .i64 (n : Int)] w (OwnPost [] w) := by
  obtain ⟨i0, hi0, hz0, hzs, hzb⟩ := info_parts Try.info5
  have hr := fun ty => Lib.run_append_nil_zeros (P := Try.prog) w 24 3 ty 5 i0 _ .i64 .i64 Try.underlying24 Try.underlying3 hi0 hz0 n h0 (by omega) (by omega) (by rw [hzb]; omega)
  have hg1 := grownCap_ge w n 0 5
  have hg2 := grownCap_le_maxLen w n 0 5 (by unfold maxLen; omega)
  have hp : (n : Int) > 0 := by omega
  have hneg : ¬ ((n : Int) < 0) := by omega
  have O := Lib.hid (show OwnB (w.drew.alloc (.cells (Builtin.zeroCells (Value.int IntKind.u8 0).cells n ++ Builtin.zeroCells (Value.int IntKind.u8 0).cells (grownCap w n 0 5 - n)) 5)) w.heap.size (.slice (some ⟨w.heap.size, 0, none⟩) 0 (grownCap w n 0 5)) [] from
    World.ownsRow_made w.drew _ _ (Nat.le_refl _) hg2 (by
      rw [Array.size_append, size_zeroCells, size_zeroCells]
      have : (Value.int IntKind.u8 0).cells.size = 1 := rfl
      rw [this]
      omega))
  have B := Lib.hid (show Below w.heap.size w (w.drew.alloc (.cells (Builtin.zeroCells (Value.int IntKind.u8 0).cells n ++ Builtin.zeroCells (Value.int IntKind.u8 0).cells (grownCap w n 0 5 - n)) 5)) from (Below.refl w.heap.size w).drew.alloc (Nat.le_refl _) _)
  generalize w.drew.alloc (.cells (Builtin.zeroCells (Value.int IntKind.u8 0).cells n ++ Builtin.zeroCells (Value.int IntKind.u8 0).cells (grownCap w n 0 5 - n)) 5) = W at *
  generalize grownCap w n 0 5 = G at *
  unfold maxLen at hg2
  have HR := Lib.hid hr
  clear hi0 hz0 hzs hzb hr
  go_enter Try.func75, Try.ntmps75
  go_wp2_with (at_builtin; go_must (refine Lib.wpList_append_run _ rfl _ _ 24 3 rfl _ _ rfl rfl _ _ (HR.out _) ?_))
  go_wp2_with fail
  go_ret
  exact ⟨_, rfl, O.out, B.out⟩

theorem flat_len_drop {ls : List Part} {k : Nat} (h : k < ls.length) : (flat (ls.drop k)).length = ls[k].l.length + (flat (ls.drop (k + 1))).length := by rw [flat_drop h, List.length_append]

set_option maxHeartbeats 4000000 in
theorem concat_any (a : Option Addr) (cap : Nat) (ls : List Part) (w : World) (h : ListsP w a cap ls) (h0 : 0 < (flat ls).length) (hl : (flat ls).length ≤ 1000000) : Calls Try.prog 50 #[.slice a ls.length cap] w (OwnPost (flat ls) w) := by
  have H := Lib.hid h
  have hll := h.len
  clear h
  go_enter Try.func50, Try.ntmps50
  go_wp2_with fail
  go_loop [3, 11] (fun s i => ∃ (k t : Nat), k ≤ ls.length ∧ i = .int .i64 k ∧ s = .int .i64 t ∧ t ≤ (flat ls).length ∧ Hid (t + (flat (ls.drop k)).length = (flat ls).length)) (fun _ i => ls.length - (intOf i).toNat)
  case atStart => exact ⟨0, 0, Nat.zero_le _, rfl, rfl, Nat.zero_le _, Lib.hid (by simp)⟩
  case round =>
    obtain ⟨k, t, hk, rfl, rfl, htl, HT⟩ := hrel
    by_cases hlt : k < ls.length
    · obtain ⟨b1, o1, rfl, q1, r1⟩ := H.out.cell (by intro e; subst e; simp at hlt)
      have g1 := r1 k _ (List.getElem?_eq_getElem hlt)
      have p1 := H.out.cap
      have HN := Lib.hid (show t + ls[k].l.length + (flat (ls.drop (k + 1))).length = (flat ls).length by rw [← HT.out, flat_len_drop hlt]; omega)
      generalize ls[k] = P at *
      have htt : t + P.l.length ≤ (flat ls).length := by have := HN.out; omega
      have htn : ¬ ((t : Int) + (P.l.length : Int) < 0) := by omega
      clear r1
      go_wp2_with fail
      go_round
      case rel => exact ⟨k + 1, t + P.l.length, by omega, by go_num, by go_num, htt, HN⟩
      case measure => simp [intOf]; omega
    · have HE := Lib.hid (show t = (flat ls).length by rw [← HT.out, List.drop_eq_nil_of_le (by omega)]; rfl)
      have C := Lib.hid (grow_nil t w (by rw [HE.out]; exact h0) (by omega))
      go_wp2_with fail
      refine C.out.mono ?_
      rintro e w1 ⟨v1, rfl, o1, b1⟩
      have O1 := Lib.hid o1
      clear o1 C
      go_wp2_with fail
      go_loopw [6, 27] (fun s i wr => ∃ (k : Nat) (acc : List Nat), k ≤ ls.length ∧ i = .int .i64 k ∧ Hid (OwnB wr w.heap.size s acc) ∧ Hid (acc ++ flat (ls.drop k) = flat ls) ∧ acc.length ≤ (flat ls).length ∧ Below w.heap.size w wr) (fun _ i _ => ls.length - (intOf i).toNat)
      case atStart => exact ⟨0, [], Nat.zero_le _, rfl, O1, Lib.hid rfl, by simp, b1⟩
      case round =>
        clear O1 b1 HE HT
        obtain ⟨j, acc, hj, rfl, HO, HS, hac, hbw⟩ := hrel
        by_cases hjl : j < ls.length
        · obtain ⟨b2, o2, rfl, q2, r2⟩ := H.out.cell (by intro e; subst e; simp at hjl)
          have g2 := (hbw.cell (p := ⟨b2, o2 + j, none⟩) q2).trans (r2 j _ (List.getElem?_eq_getElem hjl))
          have p2 := H.out.cap
          have HP := Lib.hid ((H.out.each _ (List.getElem_mem hjl)).below hbw)
          have HN := Lib.hid (show (acc ++ ls[j].l) ++ flat (ls.drop (j + 1)) = flat ls by rw [← HS.out, flat_drop hjl, List.append_assoc])
          generalize ls[j] = P at *
          obtain ⟨pa, pc, l⟩ := P
          simp only at g2 HN
          have HL := Lib.hid (show (acc ++ l).length ≤ (flat ls).length by rw [← HN.out]; simp)
          have hal : acc.length + l.length ≤ 1000000 := by have := HL.out; rw [List.length_append] at this; omega
          have hpl := HP.out.len
          have HP : Hid (BytesP wr pa pc l) := HP
          have hbs := hbw.size
          clear r2
          go_wp2_with (at_builtin; go_must (refine wpList_append_bytes rfl _ _ rfl w.heap.size _ acc l rfl HO.out pa pc rfl HP.out (by omega) hbs ?_))
          rintro v2 w2 o2 g2
          have bw2 := hbw.grown g2 hbs HO.out.row
          have O2 := Lib.hid o2
          clear o2 g2
          go_wp2_with fail
          go_roundw
          case rel => exact ⟨j + 1, acc ++ l, by omega, by go_num, O2, HN, HL.out, bw2⟩
          case measure => simp [intOf]; omega
        · have HE := Lib.hid (show flat ls = acc by rw [← HS.out, List.drop_eq_nil_of_le (by omega)]; exact List.append_nil _)
          go_wp2_with fail
          go_ret
          exact ⟨_, rfl, by rw [HE.out]; exact HO.out, hbw⟩

end Go.Proofs.Ytipikkniookanaa
