/- Lists of slices of bytes in memory; what Of of package check, the document's Of, and Clone of package bytes answer. -/
import Derived.Test.YtipikkniookanaaPkPlain
import Derived.Test.YtipikkniookanaaOwn
import Derived.Test.YtipikkniookanaaMkLeaf
import Derived.WalkKit
import Derived.WalkSpells
import Derived.ProofKit
import Derived.Below
import Derived.IntWalk
import Derived.Lib.Hide
import Derived.Laws.BitsAllLaws
import Derived.OpenShut
import Derived.ChangeSlices
import Derived.OwnWalk
import Derived.Laws.AppendOwn
import Derived.Laws.AppendOwnNone
import Derived.Laws.BytesArg
import Derived.Deep.AppendSrc
import Derived.Lib.SlBytesConst
import Derived.Lib.AppendStr
import Derived.Lib.SliceRun
namespace Go.Proofs.Ytipikkniookanaa
set_option maxRecDepth 100000
open Go.RowKit

/-- A number of 32 bits is answered, and nothing has turned. -/
def Num (n : Nat) (w : World) (e : Ending) (w' : World) : Prop := e = .returned (.int .u32 (n : Int)) ∧ w = w'

theorem and_one (n : Nat) (h : n < 4294967296) : bits .and .u32 (n : Int) 1 = ((n % 2 : Nat) : Int) := by
  have := u32_and_nat n 1 h (by decide)
  rw [nat_mask1] at this
  exact this

theorem xor_mixed (n : Nat) (h : n < 4294967296) : bits .xor .u32 ((n : Int) / 2) 2197175160 = ((n / 2 ^^^ 2197175160 : Nat) : Int) := by
  have := u32_xor_nat (n / 2) 2197175160 (by omega) (by decide)
  rw [← this]
  rfl

set_option maxHeartbeats 1000000 in
theorem overByte_any (n : Nat) (w : World) (hn : n < 4294967296) : Calls Try.prog 92 #[.int .u32 (n : Int)] w (Num (halv 8 n) w) := by
  go_enter Try.func92, Try.ntmps92
  go_wp2_with fail
  go_loop [0, 4] (fun s i => ∃ (k m : Nat), k ≤ 8 ∧ i = .int .i64 k ∧ s = .int .u32 m ∧ m < 4294967296 ∧ Hid (halv 8 n = halv (8 - k) m)) (fun _ i => 8 - (intOf i).toNat)
  case atStart => exact ⟨0, n, Nat.zero_le _, rfl, rfl, hn, Lib.hid rfl⟩
  case round =>
    obtain ⟨k, m, hk, rfl, rfl, hm, HS⟩ := hrel
    by_cases hlt : k < 8
    · have ha := and_one m hm
      have hx := xor_mixed m hm
      have HN := Lib.hid (show halv 8 n = halv (8 - (k + 1)) (half m) by
        rw [HS.out, show 8 - k = (8 - (k + 1)) + 1 by omega]; rfl)
      have hh := half_lt hm
      cases ho : ((m % 2 : Nat) : Int) == 1 with
      | true =>
        have HE := Lib.hid (show half m = m / 2 ^^^ 2197175160 by simp at ho; unfold half; rw [if_pos (by omega)])
        go_wp2_with fail
        go_round
        case rel => exact ⟨k + 1, _, by omega, by go_num, by rw [← HE.out], hh, HN⟩
        case measure => simp [intOf]; omega
      | false =>
        have HE := Lib.hid (show half m = m / 2 by simp at ho; unfold half; rw [if_neg (by omega)])
        go_wp2_with fail
        go_round
        case rel => exact ⟨k + 1, _, by omega, by go_num, by rw [HE.out]; rfl, hh, HN⟩
        case measure => simp [intOf]; omega
    · have hk8 : k = 8 := by omega
      subst hk8
      go_wp2_with fail
      go_ret
      exact ⟨by rw [HS.out]; rfl, rfl⟩

/-- The document's number of 64 bits is answered, and nothing has turned. -/
def Num64 (n : Nat) (w : World) (e : Ending) (w' : World) : Prop := e = .returned (.int .u64 (n : Int)) ∧ w = w'

theorem xor_mixed64 (n : Nat) (h : n < 4294967296) : bits .xor .u64 ((n : Int) / 2) 2197175160 = ((n / 2 ^^^ 2197175160 : Nat) : Int) := by
  have := u64_xor_nat (n / 2) 2197175160 (by omega) (by decide)
  rw [← this]
  rfl

set_option maxHeartbeats 1000000 in
theorem step_any (n : Nat) (w : World) (hn : n < 4294967296) : Calls Try.prog 86 #[.int .u64 (n : Int)] w (Num64 (half n) w) := by
  have hx := xor_mixed64 n hn
  cases ho : ((n % 2 : Nat) : Int) == 1 with
  | true =>
    have HE := Lib.hid (show half n = n / 2 ^^^ 2197175160 by simp at ho; unfold half; rw [if_pos (by omega)])
    have h1 : (n : Int) % 2 = 1 := by simp at ho; omega
    clear ho
    go_enter Try.func86, Try.ntmps86
    go_wp2_with fail
    go_ret
    exact ⟨by rw [HE.out]; rfl, rfl⟩
  | false =>
    have HE := Lib.hid (show half n = n / 2 by simp at ho; unfold half; rw [if_neg (by omega)])
    have h1 : (n : Int) % 2 = 0 := by simp at ho; omega
    clear ho
    go_enter Try.func86, Try.ntmps86
    go_wp2_with fail
    go_ret
    exact ⟨by rw [HE.out]; rfl, rfl⟩

/-- One list of bytes among others. -/
structure Part where
  a : Option Addr
  cap : Nat
  l : List Nat

/-- All their bytes. -/
def flat (ls : List Part) : List Nat := (ls.map (·.l)).flatten

/-- A slice reads as these lists. -/
structure ListsP (w : World) (a : Option Addr) (cap : Nat) (ls : List Part) : Prop where
  cap : ls.length ≤ cap
  len : ls.length ≤ 9223372036854775807
  each : ∀ p ∈ ls, BytesP w p.a p.cap p.l
  cell : ls ≠ [] → ∃ b o, a = some ⟨b, o, none⟩ ∧ b < w.heap.size ∧ ∀ (j : Nat) (p : Part), ls[j]? = some p → w.cell? ⟨b, o + j, none⟩ = some (.slice p.a p.l.length p.cap)

theorem ListsP.nil (w : World) (a : Option Addr) (cap : Nat) : ListsP w a cap [] := ⟨by simp, by simp, fun _ h => by simp at h, fun h => absurd rfl h⟩

theorem lists_one {W : World} {a : Option Addr} {cap : Nat} {l : List Nat} (h : BytesP W a cap l) (T : TypeId) :
    ListsP (W.alloc (.cells #[.slice a l.length cap] T)) (some ⟨W.heap.size, 0, none⟩) 1 [⟨a, cap, l⟩] := by
  refine ⟨by simp, by simp, fun p hp => ?_, fun _ => ⟨_, _, rfl, by simp, fun j v hj => ?_⟩⟩
  · simp at hp; subst hp
    exact h.below ((Below.refl _ _).alloc (Nat.le_refl _) _)
  · match j, hj with
    | 0, hj => simp at hj; subst hj; simp
    | _ + 1, hj => simp at hj

theorem lists_three {W : World} {a b c : Option Addr} {ca cb cc : Nat} {k l m : List Nat} (h1 : BytesP W a ca k) (h2 : BytesP W b cb l) (h3 : BytesP W c cc m) (T : TypeId) :
    ListsP (W.alloc (.cells #[.slice a k.length ca, .slice b l.length cb, .slice c m.length cc] T)) (some ⟨W.heap.size, 0, none⟩) 3 [⟨a, ca, k⟩, ⟨b, cb, l⟩, ⟨c, cc, m⟩] := by
  have hB := (Below.refl W.heap.size W).alloc (Nat.le_refl _) (.cells #[.slice a k.length ca, .slice b l.length cb, .slice c m.length cc] T)
  refine ⟨by simp, by simp, fun p hp => ?_, fun _ => ⟨_, _, rfl, by simp, fun j v hj => ?_⟩⟩
  · simp at hp
    rcases hp with rfl | rfl | rfl
    · exact h1.below hB
    · exact h2.below hB
    · exact h3.below hB
  · match j, hj with
    | 0, hj => simp at hj; subst hj; simp
    | 1, hj => simp at hj; subst hj; simp
    | 2, hj => simp at hj; subst hj; simp
    | _ + 3, hj => simp at hj

theorem xor_byte (n b : Nat) (h : n < 4294967296) (hb : b < 256) : bits .xor .u32 (n : Int) (b : Int) = ((n ^^^ b : Nat) : Int) := u32_xor_nat n b h (by omega)
theorem xor_byte64 (n b : Nat) (h : n < 4294967296) (hb : b < 256) : bits .xor .u64 (n : Int) (b : Int) = ((n ^^^ b : Nat) : Int) := u64_xor_nat n b (by omega) (by omega)
theorem turned (n : Nat) (h : n < 4294967296) : bits .xor .u32 IntKind.u32.max (n : Int) = ((4294967295 ^^^ n : Nat) : Int) := u32_xor_nat 4294967295 n (by decide) h

theorem flat_drop {ls : List Part} {k : Nat} (h : k < ls.length) : flat (ls.drop k) = ls[k].l ++ flat (ls.drop (k + 1)) := by
  unfold flat
  rw [List.drop_eq_getElem_cons h, List.map_cons, List.flatten_cons]

set_option maxHeartbeats 4000000 in
theorem of_any (a : Option Addr) (cap : Nat) (ls : List Part) (w : World) (h : ListsP w a cap ls) : Calls Try.prog 90 #[.slice a ls.length cap] w (Num (crc (flat ls)) w) := by
  have H := Lib.hid h
  have hl := h.len
  clear h
  go_enter Try.func90, Try.ntmps90
  go_wp2_with fail
  go_loop [3, 10] (fun s i => ∃ (k n : Nat), k ≤ ls.length ∧ i = .int .i64 k ∧ s = .int .u32 n ∧ n < 4294967296 ∧ Hid (goOn 4294967295 (flat ls) = goOn n (flat (ls.drop k)))) (fun _ i => ls.length - (intOf i).toNat)
  case atStart => exact ⟨0, 4294967295, Nat.zero_le _, rfl, rfl, by omega, Lib.hid rfl⟩
  case round =>
    obtain ⟨k, n, hk, rfl, rfl, hn, HS⟩ := hrel
    by_cases hlt : k < ls.length
    · have hne : ls ≠ [] := by intro e; subst e; simp at hlt
      obtain ⟨b1, o1, rfl, q1, r1⟩ := H.out.cell hne
      have g1 := r1 k _ (List.getElem?_eq_getElem hlt)
      have p1 := H.out.cap
      have hP := H.out.each _ (List.getElem_mem hlt)
      have HD := Lib.hid (flat_drop hlt)
      generalize ls[k] = P at *
      obtain ⟨pa, pc, l⟩ := P
      simp only at g1 hP
      have HP := Lib.hid hP
      have hll := hP.len
      have hlc := hP.cap
      clear r1 hne hP
      go_wp2_with fail
      go_loop [3, 16] (fun s i => ∃ (j m : Nat), j ≤ l.length ∧ i = .int .i64 j ∧ s = .int .u32 m ∧ m < 4294967296 ∧ Hid (goOn n l = goOn m (l.drop j))) (fun _ i => l.length - (intOf i).toNat)
      case atStart => exact ⟨0, n, Nat.zero_le _, rfl, rfl, hn, Lib.hid rfl⟩
      case round =>
        obtain ⟨j, m, hj, rfl, rfl, hm, HT⟩ := hrel
        by_cases hjl : j < l.length
        · have hne : l ≠ [] := by intro e; subst e; simp at hjl
          obtain ⟨b2, o2, rfl, q2, r2⟩ := HP.out.cell hne
          have g2 := r2 j _ (List.getElem?_eq_getElem hjl)
          have hb : l[j] < 256 := HP.out.byte _ (List.getElem_mem hjl)
          have HJ := Lib.hid (show goOn n l = goOn (halv 8 (m ^^^ l[j])) (l.drop (j + 1)) by rw [HT.out, List.drop_eq_getElem_cons hjl]; rfl)
          generalize l[j] = x at *
          have hx := xor_byte m x hm hb
          have hmx : m ^^^ x < 4294967296 := xor_lt32 hm (by omega)
          have hu : IntKind.u32.wrap (x : Int) = x := by rw [IntKind.wrap_u32']; omega
          have C := Lib.hid (fun W => overByte_any (m ^^^ x) W hmx)
          have hh := halv_lt 8 hmx
          clear r2 hne
          go_wp2_with fail
          refine (C.out _).mono ?_
          rintro e w' ⟨rfl, rfl⟩
          go_wp2_with fail
          go_round
          case rel => exact ⟨j + 1, _, by omega, by go_num, rfl, hh, HJ⟩
          case measure => simp [intOf]; omega
        · have HJ := Lib.hid (show goOn n l = m by rw [HT.out, List.drop_eq_nil_of_le (by omega)]; rfl)
          go_wp2_with fail
          go_round
          case rel => exact ⟨k + 1, m, by omega, by go_num, rfl, hm, Lib.hid (by rw [HS.out, HD.out, goOn_append, HJ.out])⟩
          case measure => simp [intOf]; omega
    · have ht := turned n hn
      have hsg : IntKind.u32.signed = false := rfl
      have HE := Lib.hid (show crc (flat ls) = 4294967295 ^^^ n by unfold crc; rw [HS.out, List.drop_eq_nil_of_le (by omega)]; rfl)
      go_wp2_with fail
      go_ret
      exact ⟨by rw [HE.out]; rfl, rfl⟩

set_option maxHeartbeats 4000000 in
theorem refOf_any (a : Option Addr) (cap : Nat) (l : List Nat) (w : World) (h : BytesP w a cap l) : Calls Try.prog 65 #[.slice a l.length cap] w (Num (crc l) w) := by
  have H := Lib.hid h
  have hl := h.len
  clear h
  go_enter Try.func65, Try.ntmps65
  go_wp2_with fail
  go_loop [3, 9] (fun s i => ∃ (k n : Nat), k ≤ l.length ∧ i = .int .i64 k ∧ s = .int .u64 n ∧ n < 4294967296 ∧ Hid (goOn 4294967295 l = goOn n (l.drop k))) (fun _ i => l.length - (intOf i).toNat)
  case atStart => exact ⟨0, 4294967295, Nat.zero_le _, rfl, rfl, by omega, Lib.hid rfl⟩
  case round =>
    obtain ⟨k, n, hk, rfl, rfl, hn, HS⟩ := hrel
    by_cases hlt : k < l.length
    · have hne : l ≠ [] := by intro e; subst e; simp at hlt
      obtain ⟨b1, o1, rfl, q1, r1⟩ := H.out.cell hne
      have g1 := r1 k _ (List.getElem?_eq_getElem hlt)
      have p1 := H.out.cap
      have hb : l[k] < 256 := H.out.byte _ (List.getElem_mem hlt)
      have HJ := Lib.hid (show goOn 4294967295 l = goOn (halv 8 (n ^^^ l[k])) (l.drop (k + 1)) by rw [HS.out, List.drop_eq_getElem_cons hlt]; rfl)
      generalize l[k] = x at *
      have hx := xor_byte64 n x hn hb
      have hmx : n ^^^ x < 4294967296 := xor_lt32 hn (by omega)
      have hu : IntKind.u64.wrap (x : Int) = x := by rw [IntKind.wrap_u64]; omega
      clear r1 hne
      go_wp2_with fail
      go_loop [3, 6] (fun s i => ∃ (j m : Nat), j ≤ 8 ∧ i = .int .i64 j ∧ s = .int .u64 m ∧ m < 4294967296 ∧ Hid (halv 8 (n ^^^ x) = halv (8 - j) m)) (fun _ i => 8 - (intOf i).toNat)
      case atStart => exact ⟨0, _, Nat.zero_le _, rfl, rfl, hmx, Lib.hid rfl⟩
      case round =>
        obtain ⟨j, m, hj, rfl, rfl, hm, HT⟩ := hrel
        have hh := half_lt hm
        by_cases hjl : j < 8
        · have HN := Lib.hid (show halv 8 (n ^^^ x) = halv (8 - (j + 1)) (half m) by
            rw [HT.out, show 8 - j = (8 - (j + 1)) + 1 by omega]; rfl)
          have C := Lib.hid (fun W => step_any m W hm)
          go_wp2_with fail
          refine (C.out _).mono ?_
          rintro e w' ⟨rfl, rfl⟩
          go_wp2_with fail
          go_round
          case rel => exact ⟨j + 1, half m, by omega, by go_num, rfl, hh, HN⟩
          case measure => simp [intOf]; omega
        · have HN := Lib.hid (show halv 8 (n ^^^ x) = m by rw [HT.out, show 8 - j = 0 by omega]; rfl)
          go_wp2_with fail
          go_round
          case rel => exact ⟨k + 1, m, by omega, by go_num, rfl, hm, Lib.hid (by rw [HJ.out, HN.out])⟩
          case measure => simp [intOf]; omega
    · have hv : IntKind.u32.wrap (4294967295 - (n : Int)) = ((4294967295 - n : Nat) : Int) := by rw [IntKind.wrap_u32']; omega
      have HE := Lib.hid (show crc l = 4294967295 - n by unfold crc; rw [HS.out, List.drop_eq_nil_of_le (by omega)]; exact turned_sub hn)
      go_wp2_with fail
      go_ret
      exact ⟨by rw [HE.out]; rfl, rfl⟩

set_option maxHeartbeats 2000000 in
theorem bclone_any (a : Option Addr) (cap : Nat) (l : List Nat) (w : World) (h : BytesP w a cap l) (hl : l.length ≤ 1000000) : Calls Try.prog 59 #[.slice a l.length cap] w (OwnPost l w) := by
  have q := fun (w : World) (a : Option Addr) (n c n' c' : Nat) => Lib.run_eql_slice_nil (P := Try.prog) w 24 5 a n c n' c' Try.underlying24
  have H := Lib.hid h
  cases a with
  | none =>
    have hy0 : l = [] := by
      cases l with
      | nil => rfl
      | cons y r =>
        obtain ⟨b, o, e, _⟩ := h.cell (by simp)
        cases e
    subst hy0
    clear h
    go_enter Try.func59, Try.ntmps59
    go_wp2_with fail
    go_ret
    exact ⟨_, rfl, own_nil _ _, Below.refl _ _⟩
  | some ad =>
    have OE := Lib.hid (own_fresh w w.heap.size (Nat.le_refl _))
    have bw := (Below.refl w.heap.size w).alloc (Nat.le_refl _) (.cells #[] 5)
    have G1 := Lib.hid (H.out.below bw)
    clear h
    go_enter Try.func59, Try.ntmps59
    go_wp2_with (at_builtin; go_must (refine wpList_append_bytes rfl _ _ rfl w.heap.size (.slice (some ⟨w.heap.size, 0, none⟩) 0 0) [] l rfl OE.out (some ad) cap rfl G1.out (by simp; omega) bw.size ?_))
    rintro v2 w2 o2 g2
    have bw2 := bw.grown g2 bw.size OE.out.row
    go_wp2_with fail
    go_ret
    exact ⟨_, rfl, o2, bw2⟩

end Go.Proofs.Ytipikkniookanaa
