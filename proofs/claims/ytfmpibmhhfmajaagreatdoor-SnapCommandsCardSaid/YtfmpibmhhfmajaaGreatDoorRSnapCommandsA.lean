/- What SnapCommands wants besides: MgBase, LbLeaf, LbCmp, LbRef, MgLines, MgOrders, MgStates, SnPlain, SnLay, SnRef, SnRef2, SnRef3. -/
import Derived.Test.YtfmpibmhhfmajaaGreatDoorChecked
import Derived.WalkKit
import Derived.WalkSpells
import Derived.ProofKit
import Derived.Below
import Derived.IntWalk
import Derived.Lib.Hide
import Derived.Laws.BitsAllLaws
import Derived.OpenShut
import Derived.ChangeSlices
import Derived.OwnWalk
import Derived.Laws.AppendOwn
import Derived.Laws.AppendOwnNone
import Derived.Laws.BytesArg
import Derived.Deep.AppendSrc
import Derived.Lib.SlBytesConst
import Derived.Lib.AppendStr
import Derived.Lib.SliceRun
import Derived.Deep.QuietTactic
import Derived.BigQuiet
import Derived.ArgAppend
import Derived.Test.YtfmpibmhhfmajaaGreatDoorMgBase
import Derived.Test.YtfmpibmhhfmajaaGreatDoorPLb
import Derived.Test.YtfmpibmhhfmajaaGreatDoorLbShelf
import Derived.RegionTactic
import Derived.Deep.RegionWith
import Derived.ChangeAlike
import Derived.Laws.StructEq
import Derived.Test.YtfmpibmhhfmajaaGreatDoorRows
import Derived.Deep.Slices
import Derived.Deep.Strs
import Derived.Lib.SmallJoins
import Derived.Test.YtfmpibmhhfmajaaGreatDoorPSl
import Derived.Test.YtfmpibmhhfmajaaGreatDoorMgLines
import Derived.Test.YtfmpibmhhfmajaaGreatDoorMgState
import Derived.Test.YtfmpibmhhfmajaaGreatDoorMgOrders
import Derived.Test.YtfmpibmhhfmajaaGreatDoorMgEffects
import Derived.Test.YtfmpibmhhfmajaaGreatDoorPDy
import Derived.Test.YtfmpibmhhfmajaaGreatDoorMgBatches
import Derived.Test.YtfmpibmhhfmajaaGreatDoorSnPlain
import Derived.Test.YtfmpibmhhfmajaaGreatDoorSnLay
import Derived.Test.YtfmpibmhhfmajaaGreatDoorMgStates
import Derived.Deep.DeepCutAuto
import Derived.Test.YtfmpibmhhfmajaaGreatDoorSnPlain2
import Derived.Test.YtfmpibmhhfmajaaGreatDoorPOr
import Derived.Deep.RegionHeld3
import Derived.Test.YtfmpibmhhfmajaaGreatDoorDyShelf
import Derived.Test.YtfmpibmhhfmajaaGreatDoorMgRight
import Derived.Test.YtfmpibmhhfmajaaGreatDoorMgProg
import Derived.Test.YtfmpibmhhfmajaaGreatDoorMgCopy
import Derived.Test.YtfmpibmhhfmajaaGreatDoorPSc
import Derived.Test.YtfmpibmhhfmajaaGreatDoorPBt
import Derived.Test.YtfmpibmhhfmajaaGreatDoorPOb
import Derived.Test.YtfmpibmhhfmajaaGreatDoorSnRef3
import Derived.Test.YtfmpibmhhfmajaaGreatDoorSnRef4
import Derived.Test.YtfmpibmhhfmajaaGreatDoorSnKinds
import Derived.Test.YtfmpibmhhfmajaaGreatDoorSnLines
import Derived.Test.YtfmpibmhhfmajaaGreatDoorSnTold
import Derived.Test.YtfmpibmhhfmajaaGreatDoorSnRight
import Derived.Test.YtfmpibmhhfmajaaGreatDoorSnCon
import Derived.Test.YtfmpibmhhfmajaaGreatDoorSnRow
import Derived.Test.YtfmpibmhhfmajaaGreatDoorSnOwn
import Derived.Test.YtfmpibmhhfmajaaGreatDoorSnRead0
import Derived.Test.YtfmpibmhhfmajaaGreatDoorSnReadP
import Derived.Test.YtfmpibmhhfmajaaGreatDoorSnReadP2
import Derived.Test.YtfmpibmhhfmajaaGreatDoorSnReadP3
import Derived.Test.YtfmpibmhhfmajaaGreatDoorSnReadD
import Derived.Test.YtfmpibmhhfmajaaGreatDoorSnCmd
import Derived.Test.YtfmpibmhhfmajaaGreatDoorSnState
import Derived.Test.YtfmpibmhhfmajaaGreatDoorSnAlive
namespace Go.Proofs.YtfmpibmhhfmajaaGreatDoor

/- MgBase: Texts, blocks, books of what is the program's own: the base. -/
section
/- TxBase: Slices of texts: what they read as; tests that turn nothing that was there; worlds behind some draws. -/
section
set_option maxRecDepth 100000
open Go.ChangeShapes Go.WideShapes Go.ChangeAt Go.RowKit

end

/- TxMem: Slices of texts in memory: what they read as, rows of a call's own, append onto such rows and onto a slice without room. -/
section
set_option maxRecDepth 100000
open Go.RowKit

end

/- TxSame: What Same of package packhorseref01 answers of two slices of texts. -/
section
set_option maxRecDepth 100000
open Go.RowKit

end

/- BkPlain: Plain facts on bytes: numbers' bytes, in one way alone. -/
section
end

/- BkOwn: Slices of bytes in memory; bytes in a row of the call's own: put behind others, read as a text; parts of a slice of bytes; what Clone of package bytes answers. -/
section
set_option maxRecDepth 100000
open Go.ChangeShapes Go.WideShapes Go.ChangeAt Go.RowKit

end

/- BkWrite: What Number and Text of package packet, and the document's, answer. -/
section
set_option maxRecDepth 100000
open Go.ChangeShapes Go.WideShapes Go.ChangeAt Go.RowKit

set_option maxHeartbeats 4000000 in
theorem refNumber_any (n : Nat) (w : World) (hn : n < 18446744073709551616) : Calls Tryz.prog 109 #[.int .u64 (n : Int)] w (OwnPost (numL n) w) := by
  have hten := numL_ten hn
  have OE := Lib.hid (own_fresh w w.heap.size (Nat.le_refl _))
  have bw := (Below.refl w.heap.size w).alloc (Nat.le_refl _) (.cells #[] 5)
  go_enter Tryz.func109, Tryz.ntmps109
  go_wp2_with fail
  go_loopw [0, 3] (fun i s wr => ∃ (m : Nat) (acc : List Nat), i = .int .u64 m ∧ m < 18446744073709551616 ∧ Hid (OwnB wr w.heap.size s acc) ∧ Hid (acc ++ numL m = numL n) ∧ Below w.heap.size w wr) (fun i _ _ => (intOf i).toNat)
  case atStart => exact ⟨n, [], rfl, hn, OE, Lib.hid rfl, bw⟩
  case round =>
    clear OE bw
    obtain ⟨m, acc, rfl, hm, HO, HS, hbw⟩ := hrel
    have hac : acc.length ≤ 10 := by
      have := congrArg List.length HS.out
      rw [List.length_append] at this
      omega
    have hbs := hbw.size
    by_cases hlt : 128 ≤ m
    · have HN := Lib.hid (show (acc ++ [m % 128 + 128]) ++ numL (m / 128) = numL n by rw [← HS.out, numL_great hlt, List.append_assoc]; rfl)
      obtain ⟨c, hw8, hc, HC⟩ : ∃ c : Nat, IntKind.u8.wrap (128 + (m : Int) % 128) = (c : Int) ∧ c < 256 ∧ Hid (m % 128 + 128 = c) := ⟨m % 128 + 128, by rw [IntKind.wrap_u8]; omega, by omega, rfl⟩
      rw [HC.out] at HN
      have O1 := Lib.hid (own_alloc HO.out (.cells #[.int .u8 (c : Int)] 5))
      have B1 := Lib.hid (one_block c hc wr)
      have bw := hbw.alloc hbs (.cells #[.int .u8 (c : Int)] 5)
      have hbs1 := bw.size
      have hlt' : decide (128 ≤ (m : Int)) = true := by simp; omega
      go_wp2_with (at_builtin; go_must (refine wpList_append_bytes rfl _ _ rfl w.heap.size _ acc [c] rfl O1.out _ 1 rfl B1.out (by simp; omega) hbs1 ?_))
      rintro v2 w2 o2 g2
      have bw2 := bw.grown g2 hbs1 O1.out.row
      have O2 := Lib.hid o2
      clear o2 g2
      go_wp2_with fail
      go_roundw
      case rel => exact ⟨m / 128, acc ++ [c], by go_num, by omega, O2, HN, bw2⟩
      case measure => simp [intOf]; omega
    · have HN := Lib.hid (show numL n = acc ++ [m] by rw [← HS.out, numL_small (by omega)])
      have hw8 : IntKind.u8.wrap (m : Int) = (m : Int) := by rw [IntKind.wrap_u8]; omega
      have O1 := Lib.hid (own_alloc HO.out (.cells #[.int .u8 (m : Int)] 5))
      have B1 := Lib.hid (one_block m (by omega) wr)
      have bw := hbw.alloc hbs (.cells #[.int .u8 (m : Int)] 5)
      have hbs1 := bw.size
      have hlt' : decide (128 ≤ (m : Int)) = false := by simp; omega
      go_wp2_with (at_builtin; go_must (refine wpList_append_bytes rfl _ _ rfl w.heap.size _ acc [m] rfl O1.out _ 1 rfl B1.out (by simp; omega) hbs1 ?_))
      rintro v2 w2 o2 g2
      have bw2 := bw.grown g2 hbs1 O1.out.row
      go_wp2_with fail
      go_ret
      exact ⟨_, rfl, by rw [HN.out]; exact o2, bw2⟩

set_option maxHeartbeats 4000000 in
theorem refText_any (s : ByteArray) (w : World) (hs : s.size ≤ 100000) : Calls Tryz.prog 51 #[.string s] w (OwnPost (textL s) w) := by
  have hten := numL_ten (show s.size < 18446744073709551616 by omega)
  have C := Lib.hid (refNumber_any s.size w (by omega))
  have hwz : IntKind.u64.wrap (s.size : Int) = (s.size : Int) := by rw [IntKind.wrap_u64]; omega
  go_enter Tryz.func51, Tryz.ntmps51
  go_wp2_with fail
  refine C.out.mono ?_
  rintro e w1 ⟨v1, rfl, o1, b1⟩
  have O1 := Lib.hid o1
  clear o1
  go_wp2_with (at_builtin; go_must (refine wpList_append_text rfl _ _ rfl w.heap.size _ _ s rfl O1.out rfl (by omega) b1.size ?_))
  rintro v2 w2 o2 g2
  have bw2 := b1.grown g2 b1.size O1.out.row
  go_wp2_with fail
  go_ret
  exact ⟨_, rfl, o2, bw2⟩
end

/- BkFar: Regions that draw their order, whose operations only read and whose callees may lay memory of their own: walked once, in the worlds that keep all that was there. -/
section
set_option maxRecDepth 100000
open Go.RowKit

end
end

/- LbLeaf: The tests on one sign: what isLetter, isDigit and isSign of package label answer, for every rune. -/
section
set_option maxRecDepth 100000
open Go.RowKit

/-- A byte of a text, by its place. -/
theorem run_byte (s : ByteArray) (k : Nat) (h : k < s.size) (W : World) : (Instr.index 9 (.string s) (.int .i64 (k : Int))).run Tryz.prog W = .ok (.int .u8 ((s.data.toList.getD k 0).toNat : Int)) W := by
  rw [run_index_string W 9 s .i64 _ Tryz.underlying9, dif_pos ⟨by omega, by omega⟩]
  have g := get_bang s k h
  have g1 := get_at s k h
  simp only [Nat.add_zero] at g1
  have e : s[(k : Int).toNat]'(by simpa using h) = s[k]'h := rfl
  rw [e, ← g1, g]
end

/- LbCmp: What Compare answers, in package label and in the document's own words, and that this is an order. -/
section
open Go.RowKit

theorem cmpL_three : ∀ a b : List UInt8, cmpL a b = -1 ∨ cmpL a b = 0 ∨ cmpL a b = 1
  | [], [] => by simp [cmpL_nn]
  | [], _ :: _ => by simp [cmpL_nc]
  | _ :: _, [] => by simp [cmpL_cn]
  | x :: a, y :: b => by
    have := cmpL_three a b
    rw [cmpL_cons]
    split
    · simp
    · split
      · simp
      · exact this

theorem cmpL_drop (a b : List UInt8) (k : Nat) (ha : k < a.length) (hb : k < b.length) : cmpL (a.drop k) (b.drop k) =
    if (a.getD k 0).toNat < (b.getD k 0).toNat then -1 else if (b.getD k 0).toNat < (a.getD k 0).toNat then 1 else cmpL (a.drop (k + 1)) (b.drop (k + 1)) := by
  rw [drop_cons a k ha, drop_cons b k hb, cmpL_cons]

theorem cmpL_end (a b : List UInt8) (k : Nat) (ha : k ≤ a.length) (hb : k ≤ b.length) (h : ¬ (k < a.length ∧ k < b.length)) : cmpL (a.drop k) (b.drop k) =
    if a.length < b.length then -1 else if b.length < a.length then 1 else 0 := by
  by_cases h1 : k < a.length
  · have : k = b.length := by omega
    subst this
    rw [drop_cons a _ h1, List.drop_length, cmpL_cn, if_neg (by omega), if_pos (by omega)]
  · have : k = a.length := by omega
    subst this
    rw [List.drop_length]
    by_cases h2 : a.length < b.length
    · rw [drop_cons b _ h2, cmpL_nc, if_pos h2]
    · rw [List.drop_of_length_le (by omega), cmpL_nn, if_neg h2, if_neg (by omega)]

set_option maxHeartbeats 2000000 in
theorem refCompare_any (a b : ByteArray) (w : World) (ha : a.size ≤ maxLen) (hb : b.size ≤ maxLen) :
    Calls Tryz.prog 59 #[.string a, .string b] w fun e w' => e = .returned (.int .i64 (cmpL a.data.toList b.data.toList)) ∧ Below w.heap.size w w' := by
  unfold maxLen at ha hb
  have HA := Lib.hid (Lib.size_eq a)
  have HB := Lib.hid (Lib.size_eq b)
  go_enter Tryz.func59, Tryz.ntmps59
  go_wp2
  go_loopw [5] (fun i wr => ∃ k : Nat, i = .int .i64 k ∧ k ≤ a.size ∧ k ≤ b.size ∧ Hid (cmpL a.data.toList b.data.toList = cmpL (a.data.toList.drop k) (b.data.toList.drop k)) ∧ Below w.heap.size w wr) (fun i _ => a.size - (intOf i).toNat)
  case atStart => exact ⟨0, rfl, by omega, by omega, rfl, Below.refl _ _⟩
  case round =>
    obtain ⟨k, rfl, hka, hkb, HK, hbw⟩ := hrel
    by_cases hlt : k < a.size ∧ k < b.size
    · obtain ⟨h1, h2⟩ := hlt
      have hia := run_byte a k h1
      have hib := run_byte b k h2
      have HD := Lib.hid (cmpL_drop a.data.toList b.data.toList k (by rw [← HA.out]; exact h1) (by rw [← HB.out]; exact h2))
      generalize (a.data.toList.getD k 0).toNat = x at *
      generalize (b.data.toList.getD k 0).toNat = y at *
      by_cases hxy : x < y
      · have hd : decide ((x : Int) < (y : Int)) = true := by simp; omega
        go_wp2
        go_region
        go_wp2
        go_ret
        exact ⟨ret_int (by rw [HK.out, HD.out, if_pos hxy]), hbw.drew⟩
      · have hd : decide ((x : Int) < (y : Int)) = false := by simp; omega
        by_cases hyx : y < x
        · have hd2 : decide ((y : Int) < (x : Int)) = true := by simp; omega
          go_wp2
          go_region
          go_wp2
          go_region
          go_wp2
          go_ret
          exact ⟨ret_int (by rw [HK.out, HD.out, if_neg hxy, if_pos hyx]), hbw.drew.drew⟩
        · have hd2 : decide ((y : Int) < (x : Int)) = false := by simp; omega
          go_wp2
          go_region
          go_wp2
          go_region
          go_wp2
          go_roundw
          case rel => exact ⟨k + 1, by go_num, by omega, by omega, Lib.hid (HK.out.trans (by rw [HD.out, if_neg hxy, if_neg hyx])), hbw.drew.drew⟩
          case measure => simp [intOf]; omega
    · have HE := Lib.hid (cmpL_end a.data.toList b.data.toList k (by rw [← HA.out]; exact hka) (by rw [← HB.out]; exact hkb) (by rw [← HA.out, ← HB.out]; exact hlt))
      rw [← HA.out, ← HB.out] at HE
      by_cases h1 : k < a.size
      · have h2 : ¬ k < b.size := fun h => hlt ⟨h1, h⟩
        clear hlt
        go_wp2
        all_goals
          go_ret
          refine ⟨ret_int ?_, hbw⟩
          rw [HK.out, HE.out]
          first | rw [if_pos (by omega)] | rw [if_neg (by omega), if_pos (by omega)] | rw [if_neg (by omega), if_neg (by omega)]
      · clear hlt
        go_wp2
        all_goals
          go_ret
          refine ⟨ret_int ?_, hbw⟩
          rw [HK.out, HE.out]
          first | rw [if_pos (by omega)] | rw [if_neg (by omega), if_pos (by omega)] | rw [if_neg (by omega), if_neg (by omega)]
end

/- LbRef: The document's own words on signs: what sign, Signs and Right of package packhorseref01 answer. -/
section
set_option maxRecDepth 100000
open Go.RowKit

def strV (x : List UInt8) : Value := .string ⟨x.toArray⟩
theorem Tryz.info9 : (Tryz.prog.info? 9).map (fun i => (i.zero, i.size, i.bytes)) = some (some (.string ByteArray.empty), 1, 16) := by kernel_rfl


/-- The sign at the head, by its first byte and the one behind it. -/
def sgN (c : Nat) (more : Bool) (d : Nat) : Nat × Bool :=
  if 97 ≤ c ∧ c ≤ 122 then (1, true) else if 48 ≤ c ∧ c ≤ 57 ∨ c = 45 then (1, false) else if more = false then (0, false)
  else if c = 206 ∧ 177 ≤ d ∧ d ≤ 191 ∨ c = 207 ∧ 128 ≤ d ∧ d ≤ 137 then (2, true) else (0, false)

theorem sg_N (l : List UInt8) (k : Nat) (h : k < l.length) : sg (l.drop k) = sgN (l.getD k 0).toNat (decide (k + 1 < l.length)) (l.getD (k + 1) 0).toNat := by
  rw [drop_cons l k h]
  generalize l.getD k 0 = c
  simp only [sg, sgN]
  by_cases h1 : let1 c = true
  · have : 97 ≤ c.toNat ∧ c.toNat ≤ 122 := by simpa [let1] using h1
    rw [if_pos h1, if_pos this]
  · have : ¬ (97 ≤ c.toNat ∧ c.toNat ≤ 122) := by simpa [let1] using h1
    rw [if_neg h1, if_neg this]
    by_cases h2 : one c = true
    · have h2' : 48 ≤ c.toNat ∧ c.toNat ≤ 57 ∨ c.toNat = 45 := by
        simp only [one, Bool.or_eq_true, h1, decide_eq_true_eq] at h2
        rcases h2 with h2 | h2
        · cases h2
        · exact h2
      rw [if_pos h2, if_pos h2']
    · have h2' : ¬ (48 ≤ c.toNat ∧ c.toNat ≤ 57 ∨ c.toNat = 45) := by
        intro h3
        exact h2 (by simp only [one, Bool.or_eq_true, decide_eq_true_eq]; exact Or.inr h3)
      rw [if_neg h2, if_neg h2']
      by_cases h3 : k + 1 < l.length
      · rw [drop_cons l (k + 1) h3]
        generalize l.getD (k + 1) 0 = d
        have h4 : decide (k + 1 < l.length) = true := by simpa using h3
        simp only [h4, Bool.true_eq_false, if_false]
        unfold two
        simp only [decide_eq_true_eq]
      · rw [List.drop_of_length_le (by omega)]
        have h4 : decide (k + 1 < l.length) = false := by simpa using h3
        simp only [h4, if_true]

set_option maxHeartbeats 2000000 in
theorem sign_any (s : ByteArray) (k : Nat) (w : World) (hs : s.size ≤ maxLen) (hk : k < s.size) :
    Calls Tryz.prog 146 #[.string s, .int .i64 k] w fun e w' => e = .returned (.tuple #[.int .i64 ((sg (s.data.toList.drop k)).1 : Nat), .bool (sg (s.data.toList.drop k)).2]) ∧ w = w' := by
  unfold maxLen at hs
  have hl : s.data.toList.length = s.size := (Lib.size_eq s).symm
  have HS := Lib.hid (sg_N s.data.toList k (by omega))
  rw [hl] at HS
  have hx := run_byte s k hk
  clear hl
  by_cases h1 : k + 1 < s.size
  · have hy := run_byte s (k + 1) h1
    have e1 : ((k + 1 : Nat) : Int) = (k : Int) + 1 := by omega
    rw [e1] at hy
    have hd : decide (k + 1 < s.size) = true := by simpa using h1
    rw [hd] at HS
    have hcb := (s.data.toList.getD k 0).toNat_lt
    have hdb := (s.data.toList.getD (k + 1) 0).toNat_lt
    generalize (s.data.toList.getD k 0).toNat = c at *
    generalize (s.data.toList.getD (k + 1) 0).toNat = d at *
    clear hd e1
    go_enter Tryz.func146, Tryz.ntmps146
    go_wp2
    all_goals
      go_ret2
      refine ⟨?_, rfl⟩
      rw [HS.out]
      simp only [beq_iff_eq, beq_eq_false_iff_ne, ne_eq] at *
      simp only [sgN, Bool.true_eq_false, if_false]
      repeat' split
      all_goals first | rfl | (exfalso; omega)
  · have hd : decide (k + 1 < s.size) = false := by simpa using h1
    rw [hd] at HS
    have hcb := (s.data.toList.getD k 0).toNat_lt
    generalize (s.data.toList.getD k 0).toNat = c at *
    generalize (s.data.toList.getD (k + 1) 0).toNat = d at *
    clear hd
    go_enter Tryz.func146, Tryz.ntmps146
    go_wp2
    all_goals
      go_ret2
      refine ⟨?_, rfl⟩
      rw [HS.out]
      simp only [beq_iff_eq, beq_eq_false_iff_ne, ne_eq] at *
      simp only [sgN, if_true]
      repeat' split
      all_goals first | rfl | (exfalso; omega)


def csL (l : List UInt8) : List (List UInt8) := (labOf l).getD []
theorem csL_none {l : List UInt8} (h : labOf l = none) : csL l = [] := by simp [csL, h]
theorem csL_fin {l : List UInt8} {pos k pre} (h : Pre l pos k pre) (hp : ¬ pos < l.length) : csL l = pre := by
  have := h.fin hp
  unfold csL
  rw [this]
  split
  · rename_i hk
    have : pre = [] := List.eq_nil_of_length_eq_zero (by rw [h.len, hk])
    rw [this]; rfl
  · rfl
theorem csL_right (l : List UInt8) : decide (0 < (csL l).length) = rightB l := by
  unfold csL rightB
  cases h : labOf l with
  | none => simp
  | some cs =>
    obtain ⟨_, h1, _⟩ := labOf_some.1 h
    have : 0 < cs.length := List.length_pos_iff.2 h1
    simpa using this

theorem own_shape {w : World} {base : Nat} {v : Value} {n : Nat} {xs : List Value} (h : w.ownsRow base 9 1 v n xs) : ∃ a cap, v = .slice a n cap := by
  rcases h.2 with ⟨rfl, rfl⟩ | ⟨g, cap, cur, rfl, _⟩
  · exact ⟨none, 0, rfl⟩
  · exact ⟨_, _, rfl⟩

/-- What Signs leaves: the signs, one by one. -/
def RefSigns (l : List UInt8) (w : World) (e : Ending) (w' : World) : Prop :=
  ∃ v, e = .returned v ∧ w'.ownsRow w.heap.size 9 1 v (csL l).length ((csL l).map strV) ∧ Below w.heap.size w w'

def RefRel (l : List UInt8) (w : World) (v i : Value) (wr : World) : Prop :=
  ∃ (pos k : Nat) (pre : List (List UInt8)), i = .int .i64 pos ∧ Pre l pos k pre ∧ wr.ownsRow w.heap.size 9 1 v k (pre.map strV) ∧ Below w.heap.size w wr

set_option maxHeartbeats 2000000 in
theorem refSigns_any (s : ByteArray) (w : World) (hs : s.size ≤ maxLen) : Calls Tryz.prog 107 #[.string s] w (RefSigns s.data.toList w) := by
  obtain ⟨i0, hi, hz0, hz1, hz2⟩ := info_parts Tryz.info9
  have HL := Lib.hid (Lib.size_eq s)
  have HM := Lib.hid hs
  unfold maxLen at hs
  go_enter Tryz.func107, Tryz.ntmps107
  go_wp2_with fail
  go_loopw [3, 4] (fun v i wr => RefRel s.data.toList w v i wr) (fun _ i _ => s.size - (intOf i).toNat)
  case atStart => exact ⟨0, 0, [], rfl, Pre.nil _, World.ownsRow_made w #[] 0 (Nat.le_refl _) (by unfold maxLen; omega) rfl, (Below.refl _ _).alloc (Nat.le_refl _) _⟩
  case round =>
    obtain ⟨pos, k, pre, rfl, hP, hown, hbw⟩ := hrel
    obtain ⟨ao, cv, rfl⟩ := own_shape hown
    have h16 := hP.most
    have hps : pos ≤ s.size := by rw [HL.out]; exact hP.le
    by_cases hp : pos < s.size
    · have C := Lib.hid (fun w => sign_any s pos w HM.out hp)
      have HP := Lib.hid hP
      have HO := Lib.hid hown
      have hpl : pos < s.data.toList.length := by rw [← HL.out]; exact hp
      have HB := Lib.hid (fun hb => hP.bad hpl hb)
      have HST := Lib.hid (fun hz hk h16 => hP.step hz hk h16)
      obtain ⟨sgv, hsgv⟩ : ∃ sgv, sg (s.data.toList.drop pos) = sgv := ⟨_, rfl⟩
      rw [hsgv] at C HB HST
      obtain ⟨wd, lt⟩ := sgv
      have hwl : wd ≠ 0 → pos + wd ≤ s.size := by
        intro h
        have := (sg_pos (t := s.data.toList.drop pos) (by rw [hsgv]; exact h)).1
        rw [hsgv, List.length_drop, ← HL.out] at this
        simp only at this
        omega
      have HW := Lib.hid hwl
      clear hwl hsgv hP hown hpl
      by_cases hw0 : wd = 0
      · subst hw0
        have HF := Lib.hid (csL_none (HB.out (Or.inl rfl)))
        go_wp2_with fail
        refine (C.out _).mono ?_
        rintro e w' ⟨rfl, rfl⟩
        go_wp2_with fail
        go_ret
        refine ⟨.slice none 0 0, rfl, ?_, hbw⟩
        rw [HF.out]; exact World.ownsRow_nil _ _ _ _
      · have d0 : ((wd : Int) == 0) = false := by simpa using hw0
        have hw1 := HW.out hw0
        by_cases hk0 : k = 0
        · subst hk0
          cases lt with
          | false =>
            have HF := Lib.hid (csL_none (HB.out (Or.inr (Or.inl ⟨rfl, rfl⟩))))
            go_wp2_with fail
            refine (C.out _).mono ?_
            rintro e w' ⟨rfl, rfl⟩
            go_wp2_with fail
            go_ret
            refine ⟨.slice none 0 0, rfl, ?_, hbw⟩
            rw [HF.out]; exact World.ownsRow_nil _ _ _ _
          | true =>
            have HF := Lib.hid (HST.out hw0 (fun _ => rfl) (by omega))
            go_wp2_with fail
            refine (C.out _).mono ?_
            rintro e w' ⟨rfl, rfl⟩
            go_wp2_with (at_builtin; go_must (refine wpList_append_own _ rfl _ _ 96 rfl w.heap.size 9 i0 (.string ByteArray.empty) 1 16 Tryz.underlying96 hi hz0 hz1 hz2 rfl (by decide) _ _ _ rfl (HO.out.alloc _) ⟨wr.heap.size, 0, none⟩ 1 1 [.string (s.extract pos (pos + wd))] rfl rfl (cell_one_new _ _ _) (fun x hx => by simp at hx; subst hx; rfl) (by unfold maxLen; omega) (by omega) (by have := hbw.size; simp; omega) ?_; intro v' w3 hown' hgrow3 hnil3))
            go_roundw
            case rel =>
              refine ⟨pos + wd, 1, _, by go_num, HF.out, ?_, ?_⟩
              · rw [List.map_append]
                have e : strV ((s.data.toList.drop pos).take wd) = .string (s.extract pos (pos + wd)) := by
                  unfold strV; rw [Lib.extract_eq]; simp
                simp only [List.map_cons, List.map_nil, e]
                exact hown'
              · exact ((hbw.alloc hbw.size _).grown hgrow3 (by have := hbw.size; simp; omega) (fun k hk => (HO.out.lt k hk).1))
            case measure => simp [intOf]; omega
        · have d1 : ((k : Int) == 0) = false := by simpa using hk0
          by_cases hk16 : k = 16
          · have d2 : ((k : Int) == 16) = true := by simp; omega
            have HF := Lib.hid (csL_none (HB.out (Or.inr (Or.inr hk16))))
            clear hk16
            go_wp2_with fail
            refine (C.out _).mono ?_
            rintro e w' ⟨rfl, rfl⟩
            go_wp2_with fail
            go_ret
            refine ⟨.slice none 0 0, rfl, ?_, hbw⟩
            rw [HF.out]; exact World.ownsRow_nil _ _ _ _
          · have d2 : ((k : Int) == 16) = false := by simp; omega
            have HF := Lib.hid (HST.out hw0 (fun h => absurd h hk0) hk16)
            go_wp2_with fail
            refine (C.out _).mono ?_
            rintro e w' ⟨rfl, rfl⟩
            go_wp2_with (at_builtin; go_must (refine wpList_append_own _ rfl _ _ 96 rfl w.heap.size 9 i0 (.string ByteArray.empty) 1 16 Tryz.underlying96 hi hz0 hz1 hz2 rfl (by decide) _ _ _ rfl (HO.out.alloc _) ⟨wr.heap.size, 0, none⟩ 1 1 [.string (s.extract pos (pos + wd))] rfl rfl (cell_one_new _ _ _) (fun x hx => by simp at hx; subst hx; rfl) (by unfold maxLen; omega) (by omega) (by have := hbw.size; simp; omega) ?_; intro v' w3 hown' hgrow3 hnil3))
            go_roundw
            case rel =>
              refine ⟨pos + wd, k + 1, _, by go_num, HF.out, ?_, ?_⟩
              · rw [List.map_append]
                have e : strV ((s.data.toList.drop pos).take wd) = .string (s.extract pos (pos + wd)) := by
                  unfold strV; rw [Lib.extract_eq]; simp
                simp only [List.map_cons, List.map_nil, e]
                exact hown'
              · exact ((hbw.alloc hbw.size _).grown hgrow3 (by have := hbw.size; simp; omega) (fun k hk => (HO.out.lt k hk).1))
            case measure => simp [intOf]; omega
    · have HF := Lib.hid (csL_fin hP (by rw [← HL.out]; exact hp))
      have HO := Lib.hid hown
      have HN := Lib.hid hP.len
      clear hP hown
      go_wp2_with fail
      go_ret
      refine ⟨_, rfl, ?_, hbw⟩
      rw [HF.out, HN.out]
      exact HO.out


theorem refRight_any (s : ByteArray) (w : World) (hs : s.size ≤ maxLen) : Calls Tryz.prog 40 #[.string s] w fun e w' => e = .returned (.bool (rightB s.data.toList)) ∧ Below w.heap.size w w' := by
  have C := Lib.hid (fun w => refSigns_any s w hs)
  have HR := Lib.hid (csL_right s.data.toList)
  go_enter Tryz.func40, Tryz.ntmps40
  go_wp2_with fail
  refine (C.out _).mono ?_
  rintro e w1 ⟨v, rfl, o1, b1⟩
  obtain ⟨a, cap, rfl⟩ := own_shape o1
  clear o1
  go_wp2_with fail
  go_ret
  exact ⟨ret_bool HR.out, b1⟩
end

/- MgLines: Lines, and what comes in. -/
section
/- LnPlain: Plain facts on lines, as lists: which can be, each thing once, without some pieces: no program is walked here. -/
section
theorem kcmp_three (a b : ByteArray) : kcmp a b = -1 ∨ kcmp a b = 0 ∨ kcmp a b = 1 := cmpL_three _ _
end

/- LnMem: Slices of lines in memory; what isLine, find$1, Pieces$1 and Weight$1 of package lines answer of one line. -/
section
set_option maxRecDepth 100000
open Go.RowKit

theorem refCmp_any (a b : ByteArray) (w : World) (ha : a.size ≤ maxLen) (hb : b.size ≤ maxLen) : Calls Tryz.prog 59 #[.string a, .string b] w fun e w' => e = .returned (.int .i64 (kcmp a b)) ∧ Below w.heap.size w w' := refCompare_any a b w ha hb

end

/- LnRight: What Right of package lines answers, at every slice of lines. -/
section
set_option maxRecDepth 100000
open Go.RowKit

theorem lineB_false {x : Ln} (h : lineB x = false) : rightB x.sku.data.toList = false ∨ rightB x.sku.data.toList = true ∧ (x.qty < 1 ∨ 1 ≤ x.qty ∧ (1000 < x.qty ∨ x.qty ≤ 1000 ∧ (x.wt < 0 ∨ 0 ≤ x.wt ∧ 100000 < x.wt))) := by
  cases hr : rightB x.sku.data.toList with
  | false => exact Or.inl rfl
  | true =>
    refine Or.inr ⟨rfl, ?_⟩
    simp only [lineB, hr, Bool.true_and, decide_eq_false_iff_not] at h
    omega

set_option maxHeartbeats 4000000 in
theorem refRight15_any (a : Option Addr) (cap : Nat) (l : List Ln) (w : World) (h : LnsP w a cap l) (hm : l.length ≤ maxLen) :
    Calls Tryz.prog 41 #[.slice a l.length cap] w fun e w' => e = .returned (.bool (rightLB l)) ∧ Below w.heap.size w w' := by
  have H := Lib.hid h
  clear h
  unfold maxLen at hm
  by_cases h1 : 1 ≤ l.length
  · by_cases h8 : l.length ≤ 8
    · have HR := Lib.hid (show rightLB l = goodFrom (prevAt l 0) (l.drop 0) by simp [rightLB, h1, h8, prevAt])
      have e1 : decide ((l.length : Int) < 1) = false := by simp; omega
      have e2 : decide (8 < (l.length : Int)) = false := by simp; omega
      go_enter Tryz.func41, Tryz.ntmps41
      go_wp2_with fail
      go_loopw [15] (fun i wr => ∃ (k : Nat), k ≤ l.length ∧ i = .int .i64 k ∧ Hid (rightLB l = goodFrom (prevAt l k) (l.drop k)) ∧ Below w.heap.size w wr) (fun i _ => l.length - (intOf i).toNat)
      case atStart => exact ⟨0, Nat.zero_le _, rfl, HR, Below.refl _ _⟩
      case round =>
        obtain ⟨k, hk, rfl, HK, hbw⟩ := hrel
        by_cases hlt : k < l.length
        · have HL := Lib.hid (H.out.below hbw)
          obtain ⟨b, o, ea, hb, c1, c2, c3, hsz⟩ := HL.out.at k hlt
          subst ea
          have p1 := H.out.cap
          have HS := Lib.hid (goodFrom_step l k hlt)
          have C := Lib.hid (fun w => refRight_any l[k].sku w hsz)
          have HX := Lib.hid (show ∀ j, k = j + 1 → ∃ hj : j < l.length, prevAt l k = some l[j] ∧ wr.cell? ⟨b, o + j * 3, none⟩ = some (.string l[j].sku) ∧ l[j].sku.size ≤ maxLen by
            intro j hj
            subst hj
            have hj' : j < l.length := by omega
            obtain ⟨b', o', e, _, q1, _, _, q4⟩ := HL.out.at j hj'
            injection e with e
            injection e with ea eo
            subst ea eo
            exact ⟨hj', prevAt_pos hj', q1, q4⟩)
          have HSZ := Lib.hid hsz
          clear hsz
          generalize l[k] = x at *
          have hbw1 := hbw.alloc hbw.size (Obj.cells #[Value.string x.sku, Value.int IntKind.i64 x.qty, Value.int IntKind.i64 x.wt] 72)
          have d0 : (wr.alloc (Obj.cells #[Value.string x.sku, Value.int IntKind.i64 x.qty, Value.int IntKind.i64 x.wt] 72)).cell? ⟨wr.heap.size, 0, none⟩ = some (.string x.sku) := by simp
          have d1 : (wr.alloc (Obj.cells #[Value.string x.sku, Value.int IntKind.i64 x.qty, Value.int IntKind.i64 x.wt] 72)).cell? ⟨wr.heap.size, 1, none⟩ = some (.int .i64 x.qty) := by simp
          have d2 : (wr.alloc (Obj.cells #[Value.string x.sku, Value.int IntKind.i64 x.qty, Value.int IntKind.i64 x.wt] 72)).cell? ⟨wr.heap.size, 2, none⟩ = some (.int .i64 x.wt) := by simp
          have hz : wr.heap.size < (wr.alloc (Obj.cells #[Value.string x.sku, Value.int IntKind.i64 x.qty, Value.int IntKind.i64 x.wt] 72)).heap.size := by simp
          have D := Lib.hid (And.intro d0 (And.intro d1 (And.intro d2 hz)))
          have BA := Lib.hid (show Below wr.heap.size wr (wr.alloc (Obj.cells #[Value.string x.sku, Value.int IntKind.i64 x.qty, Value.int IntKind.i64 x.wt] 72)) from (Below.refl _ _).alloc (Nat.le_refl _) _)
          clear d0 d1 d2 hz
          cases hlb : lineB x with
          | false =>
            have HE := Lib.hid (show rightLB l = false by rw [HK.out, HS.out, hlb]; rfl)
            rcases lineB_false hlb with h0 | ⟨h0, h0' | ⟨h1', h0' | ⟨h2', h0' | ⟨h3', h0'⟩⟩⟩⟩
            all_goals
              rw [h0] at C
              clear hlb h0
              go_wp2_with fail
              generalize wr.alloc (Obj.cells #[Value.string x.sku, Value.int IntKind.i64 x.qty, Value.int IntKind.i64 x.wt] 72) = W1 at *
              refine (C.out _).mono ?_
              rintro e w1 ⟨rfl, b1⟩
              have b2 := hbw1.trans (b1.mono hbw1.size)
              have e3 := (b1.cell (p := ⟨wr.heap.size, 1, none⟩) D.out.2.2.2).trans D.out.2.1
              have e4 := (b1.cell (p := ⟨wr.heap.size, 2, none⟩) D.out.2.2.2).trans D.out.2.2.1
              go_wp2_with fail
              go_ret
              exact ⟨by rw [HE.out]; rfl, b2⟩
          | true =>
            obtain ⟨hr0, hx1, hx2, hx3, hx4⟩ := lineB_of hlb
            rw [hr0] at C
            have HLB := Lib.hid hlb
            clear hlb hr0
            go_wp2_with fail
            generalize wr.alloc (Obj.cells #[Value.string x.sku, Value.int IntKind.i64 x.qty, Value.int IntKind.i64 x.wt] 72) = W1 at *
            refine (C.out _).mono ?_
            rintro e w1 ⟨rfl, b1⟩
            have b2 := hbw1.trans (b1.mono hbw1.size)
            have e3 := (b1.cell (p := ⟨wr.heap.size, 1, none⟩) D.out.2.2.2).trans D.out.2.1
            have e4 := (b1.cell (p := ⟨wr.heap.size, 2, none⟩) D.out.2.2.2).trans D.out.2.2.1
            have D2 := Lib.hid (And.intro ((b1.cell (p := ⟨wr.heap.size, 0, none⟩) D.out.2.2.2).trans D.out.1) (Nat.lt_of_lt_of_le D.out.2.2.2 b1.size))
            have D3 := Lib.hid (show ∀ o v, wr.cell? ⟨b, o, none⟩ = some v → w1.cell? ⟨b, o, none⟩ = some v from fun o v h => (b1.cell (p := ⟨b, o, none⟩) (Nat.lt_of_lt_of_le hb BA.out.size)).trans ((BA.out.cell (p := ⟨b, o, none⟩) hb).trans h))
            have hb1 : b < w1.heap.size := Nat.lt_of_lt_of_le hb (Nat.le_trans BA.out.size b1.size)
            by_cases hk0 : 0 < k
            · obtain ⟨j, rfl⟩ : ∃ j, k = j + 1 := ⟨k - 1, by omega⟩
              obtain ⟨hj, hp, hc, hjs⟩ := HX.out j rfl
              have CC := Lib.hid (fun w => refCmp_any l[j].sku x.sku w hjs HSZ.out)
              generalize l[j] = y at *
              have D4 := Lib.hid (And.intro hb1 (D3.out _ _ hc))
              clear hc hjs
              have h3 := kcmp_three y.sku x.sku
              cases hq : decide (kcmp y.sku x.sku < 0) with
              | false =>
                have HE := Lib.hid (show rightLB l = false by rw [HK.out, HS.out, HLB.out, hp, behindB]; simp only [hq]; rfl)
                have hq3 : (kcmp y.sku x.sku != -1) = true := by simp at hq ⊢; omega
                clear hq hp h3
                generalize kcmp y.sku x.sku = c at *
                go_wp2_with fail
                clear e3 e4
                have f1 := far_cell D2.out.2 D2.out.1
                have f4 := far_cell D4.out.1 D4.out.2
                refine wp_region_far (by kernel_rfl) (by kernel_rfl) ?_
                repeat (first | go_big_quiet_step ((go_at_call 59; exact calls_far (CC.out _))) | quiet_step ((go_at_call 59; exact calls_far (CC.out _))))
                refine wpQuiet_nil ?_
                intro _ hw'
                obtain ⟨p, hw''⟩ := hw'
                subst hw''
                go_wp2_with fail
                go_ret
                exact ⟨by rw [HE.out]; rfl, b2.trans ((far_below _ _).mono b2.size)⟩
              | true =>
                have HE := Lib.hid (show rightLB l = goodFrom (prevAt l (j + 1 + 1)) (l.drop (j + 1 + 1)) by rw [HK.out, HS.out, HLB.out, hp, behindB]; simp only [hq]; rfl)
                have hq3 : (kcmp y.sku x.sku != -1) = false := by simp at hq ⊢; omega
                clear hq hp h3
                generalize kcmp y.sku x.sku = c at *
                go_wp2_with fail
                clear e3 e4
                have f1 := far_cell D2.out.2 D2.out.1
                have f4 := far_cell D4.out.1 D4.out.2
                refine wp_region_far (by kernel_rfl) (by kernel_rfl) ?_
                repeat (first | go_big_quiet_step ((go_at_call 59; exact calls_far (CC.out _))) | quiet_step ((go_at_call 59; exact calls_far (CC.out _))))
                refine wpQuiet_nil ?_
                intro _ hw'
                obtain ⟨p, hw''⟩ := hw'
                subst hw''
                go_wp2_with fail
                go_roundw
                case rel => exact ⟨j + 1 + 1, by omega, by go_num, HE, b2.trans ((far_below _ _).mono b2.size)⟩
                case measure => simp [intOf]; omega
            · have HP := Lib.hid (show prevAt l k = none by simp [prevAt]; omega)
              have HE := Lib.hid (show rightLB l = goodFrom (prevAt l (k + 1)) (l.drop (k + 1)) by rw [HK.out, HS.out, HLB.out, HP.out]; rfl)
              go_wp2_with fail
              clear e3 e4
              have f1 := far_cell D2.out.2 D2.out.1
              refine wp_region_far (by kernel_rfl) (by kernel_rfl) ?_
              repeat (first | go_big_quiet_step (fail) | quiet_step (fail))
              refine wpQuiet_nil ?_
              intro _ hw'
              obtain ⟨p, hw''⟩ := hw'
              subst hw''
              go_wp2_with fail
              go_roundw
              case rel => exact ⟨k + 1, by omega, by go_num, HE, b2.trans ((far_below _ _).mono b2.size)⟩
              case measure => simp [intOf]; omega
        · have HE := Lib.hid (show rightLB l = true by rw [HK.out, List.drop_eq_nil_of_le (by omega)]; rfl)
          go_wp2_with fail
          go_ret
          exact ⟨by rw [HE.out]; rfl, hbw⟩
    · have HE := Lib.hid (show rightLB l = false by simp [rightLB, h8])
      go_enter Tryz.func41, Tryz.ntmps41
      go_wp2_with fail
      go_ret
      exact ⟨by rw [HE.out]; rfl, Below.refl _ _⟩
  · have HE := Lib.hid (show rightLB l = false by simp [rightLB, h1])
    go_enter Tryz.func41, Tryz.ntmps41
    go_wp2_with fail
    go_ret
    exact ⟨by rw [HE.out]; rfl, Below.refl _ _⟩
end

/- LnSum: What lines weigh: Weight of package lines, and the document's. -/
section
set_option maxRecDepth 100000
open Go.RowKit

end

/- LnOwn: Rows of lines that a call has made for itself; lines put behind lines in such a row. -/
section
set_option maxRecDepth 100000
open Go.RowKit Go.Lib

end

/- ScPlain: Plain facts on bytes that are read on, number by number and text by text: what is written is read, and what is read is as it would be written. -/
section
set_option maxRecDepth 100000

end

/- ScLeaf: What Right of package tally answers, the document's Right of numbers and Group; three texts in a block. -/
section
set_option maxRecDepth 100000
open Go.RowKit

set_option maxHeartbeats 1000000 in
theorem refTally_any (n : Int) (w : World) : Calls Tryz.prog 43 #[.int .i64 n] w (BoolSame (tallyB n) w) := by
  have HE := Lib.hid (show tallyB n = (decide (0 ≤ n) && decide (n ≤ 1000000000000)) by rw [Bool.eq_iff_iff]; simp [tallyB])
  cases h1 : decide (0 ≤ n) <;> cases h2 : decide (n ≤ 1000000000000)
  all_goals
    rw [h1, h2] at HE
    go_enter Tryz.func43, Tryz.ntmps43
    go_wp2_with fail
    go_ret
    exact ⟨by rw [HE.out]; rfl, rfl⟩
set_option maxHeartbeats 2000000 in
theorem refGroup_any (a b c : ByteArray) (w : World) (ha : a.size ≤ maxLen) (hb : b.size ≤ maxLen) (hc : c.size ≤ maxLen) : Calls Tryz.prog 42 #[.agg #[.string a, .string b, .string c]] w (Tell (groupB a b c) w) := by
  have C1 : Hid (∀ w, Calls Tryz.prog 40 #[.string a] w (Tell (rightT a) w)) := Lib.hid (fun w => refRight_any a w ha)
  have C2 : Hid (∀ w, Calls Tryz.prog 40 #[.string b] w (Tell (rightT b) w)) := Lib.hid (fun w => refRight_any b w hb)
  have C3 : Hid (∀ w, Calls Tryz.prog 40 #[.string c] w (Tell (rightT c) w)) := Lib.hid (fun w => refRight_any c w hc)
  have D := Lib.hid (GrB.new w a b c)
  have B := Lib.hid ((Below.refl w.heap.size w).alloc (Nat.le_refl _) (Obj.cells #[Value.string a, Value.string b, Value.string c] 24))
  have HE := Lib.hid (show groupB a b c = (rightT a && (rightT b && rightT c)) from rfl)
  clear ha hb hc
  go_enter Tryz.func42, Tryz.ntmps42
  go_wp2_with fail
  refine (C1.out _).mono ?_
  rintro e w1 ⟨rfl, b1⟩
  generalize w.alloc (Obj.cells #[Value.string a, Value.string b, Value.string c] 24) = W at *
  have D1 := Lib.hid (D.out.below b1)
  have B1 := Lib.hid (B.out.trans (b1.mono B.out.size))
  obtain ⟨c0, c1, c2⟩ := D1.out.cells
  clear b1
  cases h1 : rightT a with
  | false =>
    go_wp2_with fail
    go_ret
    exact ⟨by rw [HE.out, h1]; rfl, B1.out⟩
  | true =>
    go_wp2_with fail
    refine (C2.out _).mono ?_
    rintro e w2 ⟨rfl, b2⟩
    have D2 := Lib.hid (D1.out.below b2)
    have B2 := Lib.hid (B1.out.trans (b2.mono B1.out.size))
    clear c0 c1 c2 b2
    obtain ⟨c0, c1, c2⟩ := D2.out.cells
    cases h2 : rightT b with
    | false =>
      go_wp2_with fail
      go_ret
      exact ⟨by rw [HE.out, h1, h2]; rfl, B2.out⟩
    | true =>
      go_wp2_with fail
      refine (C3.out _).mono ?_
      rintro e w3 ⟨rfl, b3⟩
      have B3 := Lib.hid (B2.out.trans (b3.mono B2.out.size))
      clear c0 c1 c2 b3
      go_wp2_with fail
      go_ret
      exact ⟨by rw [HE.out, h1, h2]; rfl, B3.out⟩
end

/- ScArgs: What came in as bytes, as texts, as a group. -/
section
set_option maxRecDepth 100000
open Go.ChangeShapes Go.WideShapes Go.ChangeAt Go.RowKit

theorem laidOut : laidOutB Tryz.prog = true := by kernel_rfl
theorem cells9 : Tryz.prog.cellsOf 9 = 1 := by kernel_rfl
theorem cells2 : Tryz.prog.cellsOf 2 = 1 := by kernel_rfl
theorem cellsB4 : Tryz.prog.cellsOf 4 = 1 := by kernel_rfl
theorem cellsGr : Tryz.prog.cellsOf 24 = 3 := by kernel_rfl
theorem pick_list {α : Type} {P : Nat → α → Prop} : ∀ n, (∀ i, i < n → ∃ x, P i x) → ∃ l : List α, l.length = n ∧ ∀ i x, l[i]? = some x → P i x
  | 0, _ => ⟨[], rfl, fun i x h => by simp at h⟩
  | n + 1, h => by
    obtain ⟨l, hl, hp⟩ := pick_list n (fun i hi => h i (by omega))
    obtain ⟨x, hx⟩ := h n (by omega)
    refine ⟨l ++ [x], by simp [hl], fun i y hy => ?_⟩
    by_cases hi : i < l.length
    · rw [List.getElem?_append_left hi] at hy
      exact hp i y hy
    · rw [List.getElem?_append_right (by omega)] at hy
      have h0 : i - l.length = 0 := by
        have := (List.getElem?_eq_some_iff.1 hy).1
        simp at this
        omega
      rw [h0] at hy
      simp at hy
      subst hy
      rw [show i = n by omega]
      exact hx
theorem group_of_trod {H : Type} {enc : TypeId × Value → H} {W : World} {base : Nat} {spare : Nat → Bool} {held : Bool} {n : Nat} {cs : List Value} {x : DataW H × List MemPlace}
    (h : DataW.trod enc Tryz.prog W base spare held n 24 cs = some x) : ∃ a b c : ByteArray, cs = [.string a, .string b, .string c] ∧ a.size ≤ maxLen ∧ b.size ≤ maxLen ∧ c.size ≤ maxLen := by
  obtain ⟨xs, m, _, _, hlen, hxl, hf⟩ := DataW.trod_struct Tryz.underlying24 h
  rw [cellsGr] at hlen
  match cs, hlen with
  | [c0, c1, c2], _ =>
    have hx3 : xs.length = 3 := hxl
    match xs, hx3 with
    | [x0, x1, x2], _ =>
      have h0 := hf 0 _ rfl
      have h1 := hf 1 _ rfl
      have h2 := hf 2 _ rfl
      simp only [List.getElem?_cons_zero, List.getElem?_cons_succ] at h0 h1 h2
      obtain ⟨s, e0, _, hs⟩ := DataW.trod_string Tryz.underlying9 h0
      obtain ⟨q, e1, _, hq⟩ := DataW.trod_string Tryz.underlying9 h1
      obtain ⟨t, e2, _, ht⟩ := DataW.trod_string Tryz.underlying9 h2
      injection e0 with e0
      injection e1 with e1
      injection e2 with e2
      exact ⟨s, q, t, by rw [e0, e1, e2], hs, hq, ht⟩

end

/- SlArgs: Slices of structs that came in. -/
section
set_option maxRecDepth 100000
open Go.ChangeShapes Go.WideShapes Go.ChangeAt Go.RowKit

end
end

/- MgOrders: Orders. -/
section
/- OrPlain: Plain facts on orders: which can be, their bytes, and what bytes are read as; each order's bytes are read as that order, and none but these. -/
section
end

/- OrLeaf: What the small tests of package order, Right of package tally and the document's answer. -/
section
set_option maxRecDepth 100000
open Go.RowKit

end

/- OrRight: What Right of package order, and the document's, answer, at every order. -/
section
set_option maxRecDepth 100000
open Go.RowKit

end

/- OrArgs: What came in as bytes, lines, an order. -/
section
set_option maxRecDepth 100000
open Go.ChangeShapes Go.WideShapes Go.ChangeAt Go.RowKit

theorem cellsLs : Tryz.prog.cellsOf 22 = 1 := by kernel_rfl
theorem cellsLn : Tryz.prog.cellsOf 72 = 3 := by kernel_rfl
theorem line_of_trod {H : Type} {enc : TypeId × Value → H} {W : World} {base : Nat} {spare : Nat → Bool} {held : Bool} {n : Nat} {cs : List Value} {x : DataW H × List MemPlace}
    (h : DataW.trod enc Tryz.prog W base spare held n 72 cs = some x) : ∃ y : Ln, cs = [.string y.sku, .int .i64 y.qty, .int .i64 y.wt] ∧ y.sku.size ≤ maxLen ∧ (Lit.int .i64 y.qty).wf = true := by
  obtain ⟨xs, m, _, _, hlen, hxl, hf⟩ := DataW.trod_struct Tryz.underlying72 h
  rw [cellsLn] at hlen
  match cs, hlen with
  | [c0, c1, c2], _ =>
    have hx3 : xs.length = 3 := hxl
    match xs, hx3 with
    | [x0, x1, x2], _ =>
      have h0 := hf 0 _ rfl
      have h1 := hf 1 _ rfl
      have h2 := hf 2 _ rfl
      simp only [List.getElem?_cons_zero, List.getElem?_cons_succ] at h0 h1 h2
      obtain ⟨s, e0, _, hs⟩ := DataW.trod_string Tryz.underlying9 h0
      obtain ⟨q, e1, _, hq⟩ := DataW.trod_int Tryz.underlying2 h1
      obtain ⟨t, e2, _, _⟩ := DataW.trod_int Tryz.underlying2 h2
      injection e0 with e0
      injection e1 with e1
      injection e2 with e2
      exact ⟨⟨s, q, t⟩, by rw [e0, e1, e2], hs, hq⟩

theorem lns_cells_trod {H : Type} {enc : TypeId × Value → H} {W : World} {fuel : Nat} {cs : List Value} {x : DataW H × List MemPlace}
    (hf : DataW.trod enc Tryz.prog W 0 (fun _ => true) true fuel 22 cs = some x) : ∃ a cap l, cs = [.slice a (List.length l) cap] ∧ LnsP W a cap l ∧ l.length ≤ maxLen ∧ ∀ x ∈ l, (Lit.int .i64 x.qty).wf = true := by
  rcases Go.Deep.open_slice Tryz.underlying22 hf with ⟨hcs, hx⟩ | ⟨a, len, cap, m, n, D, Pl, hcs, _, hl, hm, hmm, hx, hi⟩
  · exact ⟨none, 0, [], hcs, LnsP.nil _ _ _, by simp, fun _ h => by simp at h⟩
  · subst hcs
    simp only [if_true] at hmm
    subst hmm
    rw [cellsLn] at hi
    have hpick : ∀ i, i < len → ∃ y : Ln, W.cells? 0 (a.add (i * 3)) 3 = some [.string y.sku, .int .i64 y.qty, .int .i64 y.wt] ∧ y.sku.size ≤ maxLen ∧ (Lit.int .i64 y.qty).wf = true := by
      intro i hil
      obtain ⟨cs', hc, ht⟩ := hi i (by omega)
      obtain ⟨y, rfl, hs⟩ := line_of_trod ht
      exact ⟨y, hc, hs⟩
    obtain ⟨l, hll, hlp⟩ := pick_list len hpick
    refine ⟨some a, m, l, by rw [hll], ⟨by omega, ?_, fun hne => ?_⟩, by omega, fun x hx => ?_⟩
    · intro x hx
      obtain ⟨i, hi, rfl⟩ := List.mem_iff_getElem.1 hx
      exact (hlp i _ (List.getElem?_eq_getElem hi)).2.1
    · have hcell : ∀ j x, l[j]? = some x → W.cell? ((a.add (j * 3)).add 0) = some (.string x.sku) ∧ W.cell? ((a.add (j * 3)).add 1) = some (.int .i64 x.qty) ∧ W.cell? ((a.add (j * 3)).add 2) = some (.int .i64 x.wt) := by
        intro j x hj
        obtain ⟨_, _, hat⟩ := World.cells?_some (hlp j x hj).1
        exact ⟨hat 0 (by omega), hat 1 (by omega), hat 2 (by omega)⟩
      obtain ⟨x0, hx0⟩ : ∃ x0, l[0]? = some x0 := by
        cases l with
        | nil => exact absurd rfl hne
        | cons y r => exact ⟨y, rfl⟩
      obtain ⟨b, off, spot⟩ := a
      have hc0 := (hcell 0 x0 hx0).1
      have hspot : spot = none := by simpa [Addr.add] using World.cell?_spot hc0
      subst hspot
      refine ⟨b, off, rfl, ?_, fun j x hj => ?_⟩
      · have := World.block_lt_of_cell? W _ hc0
        simpa [Addr.add] using this
      · obtain ⟨q1, q2, q3⟩ := hcell j x hj
        simp only [Addr.add_lit, Nat.add_zero] at q1 q2 q3
        exact ⟨q1, q2, q3⟩
    · obtain ⟨i, hi, rfl⟩ := List.mem_iff_getElem.1 hx
      exact (hlp i _ (List.getElem?_eq_getElem hi)).2.2

end

/- OrRight2: What the document's Right answers, at every order. -/
section
set_option maxRecDepth 100000
open Go.RowKit

end

/- OrSame: What Same of package order, and the document's, answer, at any two orders. -/
section
set_option maxRecDepth 100000
open Go.RowKit

set_option maxHeartbeats 2000000 in
theorem refSame_any (a1 a2 : Option Addr) (c1 c2 : Nat) (l m : List Ln) (w : World) (h1 : LnsP w a1 c1 l) (h2 : LnsP w a2 c2 m) (hl : l.length ≤ maxLen) (_hm : m.length ≤ maxLen) :
    Calls Tryz.prog 45 #[.slice a1 l.length c1, .slice a2 m.length c2] w (Tell (sameL l m) w) := by
  have H1 := Lib.hid h1
  have H2 := Lib.hid h2
  clear h1 h2
  unfold maxLen at hl
  by_cases hq : l.length = m.length
  rotate_left
  · have HE := Lib.hid (show sameL l m = false from sameL_len hq)
    go_enter Tryz.func45, Tryz.ntmps45
    go_wp2_with fail
    go_ret
    exact ⟨by rw [HE.out]; rfl, Below.refl _ _⟩
  · have HQ := Lib.hid hq
    rw [← hq]
    clear hq
    go_enter Tryz.func45, Tryz.ntmps45
    go_wp2_with fail
    go_loopw [13] (fun i wr => ∃ k : Nat, k ≤ l.length ∧ i = .int .i64 k ∧ Hid (sameL l m = sameL (l.drop k) (m.drop k)) ∧ Below w.heap.size w wr) (fun i _ => l.length - (intOf i).toNat)
    case atStart => exact ⟨0, Nat.zero_le _, rfl, rfl, Below.refl _ _⟩
    case round =>
      obtain ⟨k, hk, rfl, HK, hbw⟩ := hrel
      by_cases hlt : k < l.length
      · have hltm : k < m.length := by rw [← HQ.out]; exact hlt
        obtain ⟨b1, o1, rfl, q1, r1, r2, r3, _⟩ := (H1.out.below hbw).at k hlt
        obtain ⟨b2, o2, rfl, q2, s1, s2, s3, _⟩ := (H2.out.below hbw).at k hltm
        have p1 := H1.out.cap
        have p2 := H2.out.cap
        rw [← HQ.out] at p2
        have hn := neq_ln l[k] m[k]
        have HS := Lib.hid (sameL_step l m k hlt hltm)
        unfold lnEq at HS
        generalize l[k] = x at *
        generalize m[k] = y at *
        cases hb : ((x.sku.toList == y.sku.toList) && ((x.qty == y.qty) && (x.wt == y.wt))) with
        | true =>
          rw [hb] at HS hn
          have HE := Lib.hid (show sameL l m = sameL (l.drop (k + 1)) (m.drop (k + 1)) by rw [HK.out, HS.out]; rfl)
          clear hb
          go_wp2_with fail
          go_quiet (fail)
          go_wp2_with fail
          go_roundw
          case rel => exact ⟨k + 1, by omega, by go_num, HE, below_drewN hbw _⟩
          case measure => simp [intOf]; omega
        | false =>
          rw [hb] at HS hn
          have HE := Lib.hid (show sameL l m = false by rw [HK.out, HS.out]; rfl)
          clear hb
          go_wp2_with fail
          go_quiet (fail)
          go_wp2_with fail
          go_ret
          exact ⟨by rw [HE.out]; rfl, below_drewN hbw _⟩
      · have HE := Lib.hid (show sameL l m = true by rw [HK.out, List.drop_eq_nil_of_le (by omega), List.drop_eq_nil_of_le (by rw [← HQ.out]; omega)]; rfl)
        go_wp2_with fail
        go_ret
        exact ⟨by rw [HE.out]; rfl, hbw⟩


end
end

/- MgStates: States: held against each other, coming in, made; what follows of their rules. -/
section
/- StSame: What the document's Same of layer 15 answers: two states held against each other. -/
section
set_option maxRecDepth 100000
open Go.RowKit Go.ChangeShapes Go.WideShapes Go.ChangeAt
attribute [local go_sem ↓] ldOr stOr alOr bxOr bdOr ldBa stBa alBa bxBa bdBa ldSt stSt alSt bxSt bdSt ldEf stEf alEf bxEf eqEf bdEf bsEf ldGr bxGr eqGr ldCa bxCa eqCa
attribute [local go_sem] al_or bx_or st_ornew bd_or al_ba bx_ba st_banew bd_ba al_sta bx_sta st_stnew bd_sta al_ef bx_ef st_new bd_ef bs_ef bs_ef0 bx_gr ne_gr bx_ca ne_ca eq_caX

end

/- StNew: What the document's New of layer 15 answers. -/
section
set_option maxRecDepth 100000
open Go.RowKit Go.ChangeShapes Go.WideShapes Go.ChangeAt
attribute [local go_sem ↓] ldOr stOr alOr bxOr bdOr ldBa stBa alBa bxBa bdBa ldSt stSt alSt bxSt bdSt ldEf stEf alEf bxEf eqEf bdEf bsEf ldGr bxGr eqGr ldCa bxCa eqCa
attribute [local go_sem] al_or bx_or st_ornew bd_or al_ba bx_ba st_banew bd_ba al_sta bx_sta st_stnew bd_sta al_ef bx_ef st_new bd_ef bs_ef bs_ef0 bx_gr ne_gr bx_ca ne_ca

end

/- StArgs: What came in as a state, as two caps, as numbers. -/
section
set_option maxRecDepth 100000
open Go.ChangeShapes Go.WideShapes Go.ChangeAt Go.RowKit

end

/- StGreat: The laws' bound on states. -/
section
set_option maxRecDepth 100000
open Go.RowKit Go.ChangeShapes Go.WideShapes Go.ChangeAt
attribute [local go_sem ↓] ldOr stOr alOr bxOr bdOr ldBa stBa alBa bxBa bdBa ldSt stSt alSt bxSt bdSt ldEf stEf alEf bxEf eqEf bdEf bsEf ldGr bxGr eqGr
attribute [local go_sem] al_or bx_or st_ornew bd_or al_ba bx_ba st_banew bd_ba al_sta bx_sta st_stnew bd_sta al_ef bx_ef st_new bd_ef bs_ef bs_ef0 bx_gr ne_gr

end

/- StHung: Plain facts on a state that hangs together: who is found, what is held. -/
section
set_option maxRecDepth 100000

end

/- StCon: What package state's calls answer, as the laws want it. -/
section
set_option maxRecDepth 100000
open Go.RowKit Go.ChangeShapes Go.WideShapes Go.ChangeAt

end

/- StAlive: The chapter's example. -/
section
set_option maxRecDepth 100000
open Go.RowKit Go.ChangeShapes Go.WideShapes Go.ChangeAt
attribute [local go_sem ↓] ldOr stOr alOr bxOr bdOr ldBa stBa alBa bxBa bdBa ldSt stSt alSt bxSt bdSt ldEf stEf alEf bxEf eqEf bdEf bsEf ldGr bxGr eqGr ldCa bxCa eqCa
attribute [local go_sem] al_or bx_or st_ornew bd_or al_ba bx_ba st_banew bd_ba al_sta bx_sta st_stnew bd_sta al_ef bx_ef st_new bd_ef bs_ef bs_ef0 bx_gr ne_gr bx_ca ne_ca eq_caX

theorem results_cell_alone {fn : Func} {p : Tmp} {ty : TypeId} (h : fn.results = #[.cell p ty]) (tmps : Array Value) (w : World) (g : Nat) (cs : Array Value)
    (hp : tmps.getD p undef = .pointer (some ⟨g, 0, none⟩)) (hl : (loadVar ty ⟨g, 0, none⟩).run Tryz.prog w = .ok (.agg cs) w) :
    (results fn tmps).run Tryz.prog w = .ok (.agg cs) w := by
  have hp' : tmps[p]?.getD undef = .pointer (some ⟨g, 0, none⟩) := by simpa using hp
  simp [results, h, hp', asAddr, hl]
section
variable (ev : Operand → Value) (d : Option Tmp) (ty : TypeId) (pos : String) (af : Array Edge) (gd : Option (Nat × Bool)) (w : World)
end
attribute [local go_sem ↓] bsOr
attribute [local go_sem] bd_odA bs_odA bd_efA

end

/- StMust: Plain facts on effects: what must be asked is just what is asked. -/
section
set_option maxRecDepth 100000

end

/- StCount: Plain facts on counting what is needed against what is asked. -/
section
set_option maxRecDepth 100000

end

/- StBreak: Plain facts: a state that hangs together doesn't any more without one of its effects, or with an order in the next phase. -/
section
set_option maxRecDepth 100000

end

/- StHeld: Rows of numbers of 64 bits of the call's own; what the document's Held of layer 15 answers. -/
section
set_option maxRecDepth 100000
open Go.RowKit Go.ChangeShapes Go.WideShapes Go.ChangeAt
attribute [local go_sem ↓] ldOr stOr alOr bxOr bdOr ldBa stBa alBa bxBa bdBa ldSt stSt alSt bxSt bdSt ldEf stEf alEf bxEf eqEf bdEf bsEf ldGr bxGr eqGr ldCa bxCa eqCa
attribute [local go_sem] al_or bx_or st_ornew bd_or al_ba bx_ba st_banew bd_ba al_sta bx_sta st_stnew bd_sta al_ef bx_ef st_new bd_ef bs_ef bs_ef0 bx_gr ne_gr bx_ca ne_ca eq_grX

end
end

/- SnPlain: Plain facts on commands and states as bytes: what can be, what is written, what is read. -/
section
set_option maxRecDepth 100000

theorem sameCm_self (x : Cm) : sameCm x x = true := (sameCm_iff x x).2 rfl
/-- What is read, behind the kind. -/
def submitS (k : Nat) (s : Sc) : Cm × Sc :=
  let i := textS 32 s
  let n := numS 8 i.2
  let l := linesS n.1 n.2
  let g := groupS l.2
  let t := numS 1000000000000 g.2
  (⟨(k : Int), strB i.1, l.1, strB g.1.1, strB g.1.2.1, strB g.1.2.2, (t.1 : Int), 0, false⟩, t.2)
def idS (k : Nat) (s : Sc) : Cm × Sc := (⟨(k : Int), strB (textS 32 s).1, [], ⟨#[]⟩, ⟨#[]⟩, ⟨#[]⟩, 0, 0, false⟩, (textS 32 s).2)
def amendS (k : Nat) (s : Sc) : Cm × Sc :=
  let i := textS 32 s
  let g := groupS i.2
  (⟨(k : Int), strB i.1, [], strB g.1.1, strB g.1.2.1, strB g.1.2.2, 0, 0, false⟩, g.2)
def tickS (m k : Nat) (s : Sc) : Cm × Sc := (⟨(k : Int), ⟨#[]⟩, [], ⟨#[]⟩, ⟨#[]⟩, ⟨#[]⟩, 0, ((numS m s).1 : Int), false⟩, (numS m s).2)
def replyS (k : Nat) (s : Sc) : Cm × Sc :=
  let n := numS 1000000000000 s
  let y := numS 1 n.2
  (⟨(k : Int), ⟨#[]⟩, [], ⟨#[]⟩, ⟨#[]⟩, ⟨#[]⟩, 0, (n.1 : Int), decide (y.1 = 1)⟩, y.2)
def kindS (m k : Nat) (s : Sc) : Cm × Sc :=
  if k = 1 then submitS k s else if k = 2 ∨ k = 8 then idS k s else if k = 3 then amendS k s else if k = 4 then tickS m k s else if k = 5 then replyS k s
  else (⟨(k : Int), ⟨#[]⟩, [], ⟨#[]⟩, ⟨#[]⟩, ⟨#[]⟩, 0, 0, false⟩, s)
def toldS (m : Nat) (s : Sc) : Cm × Sc := kindS m (numS 8 s).1 (numS 8 s).2
/-- The command of bytes; none, if there is none. -/
def toldO (m : Nat) (l : List Nat) : Option Cm := if (toldS m (some l)).2 == some [] && rightC (toldS m (some l)).1 then some (toldS m (some l)).1 else none
def toldV (l : List Nat) : Cm := (toldO 1000000000000 l).getD noCm
def toldE (l : List Nat) : Int := if (toldO 1000000000000 l).isSome then 0 else 161

theorem groupL_put {a b c : ByteArray} (h : groupB a b c = true) (r : List Nat) : groupS (some (textL a ++ (textL b ++ (textL c ++ r)))) = ((strL a, strL b, strL c), some r) := by
  obtain ⟨g1, g2, g3⟩ := groupB_of h
  exact groupS_put (right_32 g1) (right_32 g2) (right_32 g3) r
theorem commandL_eq (c : Cm) : commandL c = numL c.kind.toNat ++ restL c := rfl
theorem kindS_put (m : Nat) (hm : 96 ≤ m) {c : Cm} (h : rightC c = true) (r : List Nat) : kindS m c.kind.toNat (some (restL c ++ r)) = (c, some r) := by
  obtain ⟨h1, h2⟩ := rightC_of h
  have hk := rightC_kind h
  obtain ⟨kind, id, ls, car, zone, serv, total, number, yes⟩ := c
  simp only at hk h1 h2
  have hkk : kind = 1 ∨ kind = 2 ∨ kind = 3 ∨ kind = 4 ∨ kind = 5 ∨ kind = 6 ∨ kind = 7 ∨ kind = 8 := by omega
  rcases hkk with rfl | rfl | rfl | rfl | rfl | rfl | rfl | rfl
  · have h1 : (number = 0 ∧ yes = false) := by simpa [bareC] using h1
    obtain ⟨rfl, rfl⟩ := h1
    have h2 : rightT id = true ∧ rightLB ls = true ∧ groupB car zone serv = true ∧ 0 ≤ total ∧ total ≤ 1000000000000 := by simpa [fitsC, tallyB] using h2
    obtain ⟨i1, i2, i3, i4⟩ := h2
    obtain ⟨l1, l2, _⟩ := (rightLB_iff _).1 i2
    show submitS 1 (some ((textL id ++ (numL ls.length ++ (linesL ls ++ (textL car ++ (textL zone ++ (textL serv ++ numL total.toNat)))))) ++ r)) = _
    unfold submitS
    simp only [List.append_assoc]
    rw [textS_put (right_32 i1)]
    simp only
    rw [numS_put (by omega)]
    simp only
    rw [linesS_put _ l2]
    simp only
    rw [groupL_put i3]
    simp only
    rw [numS_put (by omega)]
    simp only [strB_strL]
    rw [Int.toNat_of_nonneg i4.1]
    rfl
  · have h1 : ls = [] ∧ car = ⟨#[]⟩ ∧ zone = ⟨#[]⟩ ∧ serv = ⟨#[]⟩ ∧ total = 0 ∧ number = 0 ∧ yes = false := by simpa [bareC] using h1
    obtain ⟨rfl, rfl, rfl, rfl, rfl, rfl, rfl⟩ := h1
    have h2 : rightT id = true := by simpa [fitsC] using h2
    show idS 2 (some (textL id ++ r)) = _
    unfold idS
    rw [textS_put (right_32 h2), strB_strL]
    rfl
  · have h1 : ls = [] ∧ total = 0 ∧ number = 0 ∧ yes = false := by simpa [bareC] using h1
    obtain ⟨rfl, rfl, rfl, rfl⟩ := h1
    have h2 : rightT id = true ∧ groupB car zone serv = true := by simpa [fitsC] using h2
    show amendS 3 (some ((textL id ++ (textL car ++ (textL zone ++ textL serv))) ++ r)) = _
    unfold amendS
    simp only [List.append_assoc]
    rw [textS_put (right_32 h2.1)]
    simp only
    rw [groupL_put h2.2]
    simp only [strB_strL]
    rfl
  · have h1 : id = ⟨#[]⟩ ∧ ls = [] ∧ car = ⟨#[]⟩ ∧ zone = ⟨#[]⟩ ∧ serv = ⟨#[]⟩ ∧ total = 0 ∧ yes = false := by simpa [bareC] using h1
    obtain ⟨rfl, rfl, rfl, rfl, rfl, rfl, rfl⟩ := h1
    have h2 : 1 ≤ number ∧ number ≤ 96 := by simpa [fitsC] using h2
    show tickS m 4 (some (numL number.toNat ++ r)) = _
    unfold tickS
    rw [numS_put (by omega)]
    simp only
    rw [Int.toNat_of_nonneg (by omega)]
    rfl
  · have h1 : id = ⟨#[]⟩ ∧ ls = [] ∧ car = ⟨#[]⟩ ∧ zone = ⟨#[]⟩ ∧ serv = ⟨#[]⟩ ∧ total = 0 := by simpa [bareC] using h1
    obtain ⟨rfl, rfl, rfl, rfl, rfl, rfl⟩ := h1
    have h2 : 1 ≤ number ∧ number ≤ 1000000000000 := by simpa [fitsC, aboveB] using h2
    show replyS 5 (some ((numL number.toNat ++ numL (givenN yes)) ++ r)) = _
    unfold replyS
    rw [List.append_assoc, numS_put (by omega)]
    simp only
    rw [numS_put (givenN_le _)]
    simp only [givenN_one]
    rw [Int.toNat_of_nonneg (by omega)]
    rfl
  · have h1 : id = ⟨#[]⟩ ∧ ls = [] ∧ car = ⟨#[]⟩ ∧ zone = ⟨#[]⟩ ∧ serv = ⟨#[]⟩ ∧ total = 0 ∧ number = 0 ∧ yes = false := by simpa [bareC] using h1
    obtain ⟨rfl, rfl, rfl, rfl, rfl, rfl, rfl, rfl⟩ := h1
    rfl
  · have h1 : id = ⟨#[]⟩ ∧ ls = [] ∧ car = ⟨#[]⟩ ∧ zone = ⟨#[]⟩ ∧ serv = ⟨#[]⟩ ∧ total = 0 ∧ number = 0 ∧ yes = false := by simpa [bareC] using h1
    obtain ⟨rfl, rfl, rfl, rfl, rfl, rfl, rfl, rfl⟩ := h1
    rfl
  · have h1 : ls = [] ∧ car = ⟨#[]⟩ ∧ zone = ⟨#[]⟩ ∧ serv = ⟨#[]⟩ ∧ total = 0 ∧ number = 0 ∧ yes = false := by simpa [bareC] using h1
    obtain ⟨rfl, rfl, rfl, rfl, rfl, rfl, rfl⟩ := h1
    have h2 : rightT id = true := by simpa [fitsC] using h2
    show idS 8 (some (textL id ++ r)) = _
    unfold idS
    rw [textS_put (right_32 h2), strB_strL]
    rfl
/-- What is written is read. -/
theorem toldS_put (m : Nat) (hm : 96 ≤ m) {c : Cm} (h : rightC c = true) (r : List Nat) : toldS m (some (commandL c ++ r)) = (c, some r) := by
  unfold toldS
  have hk := rightC_kind h
  rw [commandL_eq, List.append_assoc, numS_put (by omega)]
  exact kindS_put m hm h r
theorem toldO_put (m : Nat) (hm : 96 ≤ m) {c : Cm} (h : rightC c = true) : toldO m (commandL c) = some c := by
  have := toldS_put m hm h []
  rw [List.append_nil] at this
  unfold toldO
  rw [this]
  simp [h]
theorem kindS_back (m : Nat) {k : Nat} (hk : k ≤ 8) {s : Sc} (h : BytesS s) {r : List Nat} (e : (kindS m k s).2 = some r) : (kindS m k s).1.kind = (k : Int) ∧ s = some (restL (kindS m k s).1 ++ r) := by
  have hkk : k = 0 ∨ k = 1 ∨ k = 2 ∨ k = 3 ∨ k = 4 ∨ k = 5 ∨ k = 6 ∨ k = 7 ∨ k = 8 := by omega
  rcases hkk with rfl | rfl | rfl | rfl | rfl | rfl | rfl | rfl | rfl
  · exact ⟨rfl, e⟩
  · refine ⟨rfl, ?_⟩
    change (submitS 1 s).2 = some r at e
    show s = some (restL (submitS 1 s).1 ++ r)
    unfold submitS at e ⊢
    simp only at e ⊢
    have b1 := (textS_bytes h 32).1
    have b2 := numS_bytes b1 8
    generalize hi : textS 32 s = i at *
    generalize hn : numS 8 i.2 = n at *
    have b3 := linesS_bytes n.1 b2
    have n3 := linesS_len n.1 n.2
    generalize hl : linesS n.1 n.2 = l at *
    have b4 := groupS_bytes b3
    generalize hg : groupS l.2 = g at *
    have e5 := numS_back b4 (m := 1000000000000) (r := r) e
    generalize ht : numS 1000000000000 g.2 = t at *
    have e4 := groupS_back b3 (by rw [hg]; exact e5)
    rw [hg] at e4
    have e3 := linesS_back n.1 b2 (by rw [hl]; exact e4)
    rw [hl] at e3
    have e2 := numS_back b1 (m := 8) (by rw [hn]; exact e3)
    rw [hn] at e2
    have e1 := textS_back h (m := 32) (by rw [hi]; exact e2)
    rw [hi] at e1
    show s = some ((textL (strB i.1) ++ (numL l.1.length ++ (linesL l.1 ++ (textL (strB g.1.1) ++ (textL (strB g.1.2.1) ++ (textL (strB g.1.2.2) ++ numL (t.1 : Int).toNat)))))) ++ r)
    simp only [Int.toNat_natCast, List.append_assoc, n3]
    exact e1
  · exact ⟨rfl, textS_back h (m := 32) e⟩
  · refine ⟨rfl, ?_⟩
    change (amendS 3 s).2 = some r at e
    show s = some (restL (amendS 3 s).1 ++ r)
    unfold amendS at e ⊢
    simp only at e ⊢
    have b1 := (textS_bytes h 32).1
    generalize hi : textS 32 s = i at *
    have e2 := groupS_back b1 e
    have e1 := textS_back h (m := 32) (by rw [hi]; exact e2)
    rw [hi] at e1
    show s = some ((textL (strB i.1) ++ (textL (strB (groupS i.2).1.1) ++ (textL (strB (groupS i.2).1.2.1) ++ textL (strB (groupS i.2).1.2.2)))) ++ r)
    simp only [List.append_assoc]
    exact e1
  · refine ⟨rfl, ?_⟩
    have e1 := numS_back h (m := m) (r := r) e
    show s = some (numL ((numS m s).1 : Int).toNat ++ r)
    rw [Int.toNat_natCast]
    exact e1
  · refine ⟨rfl, ?_⟩
    change (replyS 5 s).2 = some r at e
    show s = some (restL (replyS 5 s).1 ++ r)
    unfold replyS at e ⊢
    simp only at e ⊢
    have b1 := numS_bytes h 1000000000000
    generalize hn : numS 1000000000000 s = n at *
    have e2 := numS_back b1 (m := 1) (r := r) e
    have g1 := numS_le 1 n.2 b1
    generalize hy : numS 1 n.2 = y at *
    have e1 := numS_back h (m := 1000000000000) (by rw [hn]; exact e2)
    rw [hn] at e1
    have hgg : givenN (decide (y.1 = 1)) = y.1 := by
      unfold givenN
      by_cases hg1 : y.1 = 1
      · simp [hg1]
      · simp [hg1]; omega
    show s = some ((numL (n.1 : Int).toNat ++ numL (givenN (decide (y.1 = 1)))) ++ r)
    rw [Int.toNat_natCast, hgg, List.append_assoc]
    exact e1
  · exact ⟨rfl, e⟩
  · exact ⟨rfl, e⟩
  · exact ⟨rfl, textS_back h (m := 32) e⟩
theorem toldS_back (m : Nat) {s : Sc} (h : BytesS s) {r : List Nat} (e : (toldS m s).2 = some r) : s = some (commandL (toldS m s).1 ++ r) := by
  unfold toldS at e ⊢
  have h1 := numS_bytes h 8
  have h2 := numS_le 8 s h
  obtain ⟨e1, e2⟩ := kindS_back m h2 h1 e
  rw [commandL_eq, e1, Int.toNat_natCast, List.append_assoc]
  exact numS_back h e2
theorem toldO_some {m : Nat} {l : List Nat} {c : Cm} (h : toldO m l = some c) : toldS m (some l) = (c, some []) ∧ rightC c = true := by
  unfold toldO at h
  split at h
  · rename_i h1
    rw [Bool.and_eq_true, sc_beq] at h1
    cases h
    exact ⟨by rw [← h1.1], h1.2⟩
  · cases h
theorem toldO_back {m : Nat} {l : List Nat} (hb : Bytes l) {c : Cm} (h : toldO m l = some c) : l = commandL c ∧ rightC c = true := by
  obtain ⟨h1, h2⟩ := toldO_some h
  have := toldS_back m (s := some l) (fun b e => by cases e; exact hb) (r := []) (by rw [h1])
  rw [h1, List.append_nil] at this
  injection this with this
  exact ⟨this, h2⟩
/-- Whatever the greatest number of ticks that is read. -/
theorem toldO_limit {m m' : Nat} (hm : 96 ≤ m) (hm' : 96 ≤ m') {l : List Nat} (hb : Bytes l) : toldO m l = toldO m' l := by
  cases h : toldO m l with
  | some c =>
    obtain ⟨h1, h2⟩ := toldO_back hb h
    rw [h1, toldO_put m' hm' h2]
  | none =>
    cases h' : toldO m' l with
    | none => rfl
    | some c =>
      obtain ⟨h1, h2⟩ := toldO_back hb h'
      rw [h1, toldO_put m hm h2] at h
      cases h
theorem restL_bytes (c : Cm) : Bytes (restL c) := by
  unfold restL
  repeat' split
  all_goals (repeat' (first | exact textL_bytes _ | exact numL_bytes _ | exact linesL_bytes _ | apply bytes_app))
  all_goals exact fun b hb => by simp at hb
theorem commandL_bytes (c : Cm) : Bytes (commandL c) := bytes_app (numL_bytes _) (restL_bytes c)
end

/- SnLay: A command as a value: how it lies, whole loads, stores and new variables told at once; a command that came in. -/
section
set_option maxRecDepth 100000
open Go.RowKit Go.ChangeShapes Go.WideShapes Go.ChangeAt

section
variable (ev : Operand → Value) (d : Option Tmp) (ty : TypeId) (pos : String) (af : Array Edge) (gd : Option (Nat × Bool)) (w : World)
end
theorem loadCm {W : World} {g : Nat} {r : CmR} (h : Row W g 26 (cmC r)) : (loadVar 26 ⟨g, 0, none⟩).run Tryz.prog W = .ok (.agg (cmC r)) W :=
  run_loadVar_row (P := Tryz.prog) W g 26 26 _ (0, 0) _ h Tryz.underlying26 rfl (sizeCm r)
theorem ld_cm {W : World} {g : Nat} {r : CmR} (h : Row W g 26 (cmC r)) : LdX 26 (.pointer (some ⟨g, 0, none⟩)) W = .ok (.value (cmV r)) W := by
  simp only [LdX, Instr.loadAt, Instr.sureAddr, Sem.run_bind, Sem.run_pure, Result.andThen_ok, loadCm h]
  rfl
theorem cellsI3 : Tryz.prog.cellsOf 3 = 1 := by kernel_rfl
theorem cellsCm : Tryz.prog.cellsOf 26 = 9 := by kernel_rfl
/-- A command that came in. -/
theorem command_of_trod {H : Type} {enc : TypeId × Value → H} {W : World} {base : Nat} {v : Value} {d : DataW H} {p : List MemPlace}
    (hv : Value.okWide Tryz.prog W .any base 26 v) (h : DataW.Trod enc Tryz.prog W 0 (fun _ => true) true 26 v d p) : ∃ r, v = cmV r ∧ CmP W r := by
  obtain ⟨cs, rfl, hsz⟩ := okWide_struct Tryz.underlying26 hv
  obtain ⟨fuel, hf⟩ := h
  obtain ⟨xs, m, _, _, hlen, hxl, hf⟩ := DataW.trod_struct Tryz.underlying26 hf
  rw [cellsCm] at hlen
  simp only [Value.cells] at hlen hf
  obtain ⟨l⟩ := cs
  match l, hlen with
  | [c0, c1, c2, c3, c4, c5, c6, c7, c8], _ =>
    have hx7 : xs.length = 7 := hxl
    match xs, hx7 with
    | [x0, x1, x2, x3, x4, x5, x6], _ =>
      have h0 := hf 0 _ rfl
      have h1 := hf 1 _ rfl
      have h2 := hf 2 _ rfl
      have h3 := hf 3 _ rfl
      have h4 := hf 4 _ rfl
      have h5 := hf 5 _ rfl
      have h6 := hf 6 _ rfl
      simp only [List.getElem?_cons_zero, List.getElem?_cons_succ] at h0 h1 h2 h3 h4 h5 h6
      obtain ⟨k, e0, _⟩ := DataW.trod_int Tryz.underlying3 h0
      obtain ⟨s, e1, _, hs⟩ := DataW.trod_string Tryz.underlying9 h1
      obtain ⟨a, cap, ls, e2, hL, hl, hq⟩ := lns_cells_trod h2
      obtain ⟨g1, g2, g3, e3, q1, q2, q3⟩ := group_of_trod h3
      obtain ⟨t, e4, _⟩ := DataW.trod_int Tryz.underlying2 h4
      obtain ⟨n, e5, _⟩ := DataW.trod_int Tryz.underlying2 h5
      obtain ⟨y, e6, _⟩ := DataW.trod_bool Tryz.underlying4 h6
      simp [cells9, cellsI3, cells2, cellsB4, cellsLs, cellsGr] at e0 e1 e2 e3 e4 e5 e6
      obtain ⟨rfl, rfl, rfl⟩ := e3
      subst e0 e1 e2 e4 e5 e6
      exact ⟨⟨⟨k, s, ls, g1, g2, g3, t, n, y⟩, a, cap⟩, rfl, hL, hl, hs, q1, q2, q3⟩
end

/- SnRef: The document's answers of layer 16 on commands: the same, bare, right. -/
section
set_option maxRecDepth 100000
open Go.RowKit Go.ChangeShapes Go.WideShapes Go.ChangeAt
attribute [local go_sem ↓] ldCm stCm alCm bxCm bdCm
attribute [local go_sem] al_cm bx_cm st_cmnew bd_cm bd_cmKind

/-- Two commands in their variables. -/
structure TwCm (w : World) (r s : CmR) (W : World) : Prop where
  one : Row W w.heap.size 26 (cmC r)
  two : Row W (w.heap.size + 1) 26 (cmC s)
  st : CmP W r
  su : CmP W s
  low : Below w.heap.size w W
theorem TwCm.below {w W W' : World} {r s : CmR} (h : TwCm w r s W) (b : Below W.heap.size W W') : TwCm w r s W' := ⟨h.one.below b, h.two.below b, h.st.below b, h.su.below b, h.low.trans (b.mono h.low.size)⟩
theorem TwCm.begin (w : World) (r s : CmR) (h : CmP w r) (hs : CmP w s) : TwCm w r s ((w.alloc (.cells (cmC r) 26)).alloc (.cells (cmC s) 26)) := by
  have b1 : Below w.heap.size w (w.alloc (.cells (cmC r) 26)) := (Below.refl _ _).alloc (Nat.le_refl _) _
  have b2 : Below w.heap.size w ((w.alloc (.cells (cmC r) 26)).alloc (.cells (cmC s) 26)) := b1.alloc b1.size _
  refine ⟨(Row.new w _ _).more _, ?_, h.below b2, hs.below b2, b2⟩
  have := Row.new (w.alloc (.cells (cmC r) 26)) (cmC s) 26
  rwa [show (w.alloc (.cells (cmC r) 26)).heap.size = w.heap.size + 1 by show (w.heap.push _).size = _; rw [Array.size_push]] at this

/-- What its kind has, alone, as a value. -/
def bareR (r : CmR) : CmR := ⟨bareC r.m, if r.m.kind = 1 then r.a else none, if r.m.kind = 1 then r.c else 0⟩
theorem empty_le : (⟨#[]⟩ : ByteArray).size ≤ maxLen := by decide
theorem bareR_p {w : World} {r : CmR} (h : CmP w r) : CmP w (bareR r) := by
  unfold bareR bareC
  split
  · exact ⟨h.lns, h.len, h.id, h.car, h.zone, h.serv⟩
  · repeat' split
    all_goals exact ⟨LnsP.nil _ _ _, by simp, by first | exact h.id | exact empty_le, by first | exact h.car | exact empty_le, by first | exact h.zone | exact empty_le, by first | exact h.serv | exact empty_le⟩
theorem setCell_els (w : World) {g k : Nat} (o : Nat) (v : Value) (h : k ≠ g) : (w.setCell ⟨g, o, none⟩ v).heap[k]? = w.heap[k]? := by
  simp only [World.setCell, Array.getElem?_modify]
  rw [if_neg (fun e => h e.symm)]
/-- The command that came in, the result's variable, what is being made. -/
structure BaI (w : World) (r o : CmR) (W : World) : Prop where
  one : Row W w.heap.size 26 (cmC r)
  res : Row W (w.heap.size + 1) 26 (cmC noCmR)
  out : Row W (w.heap.size + 2) 26 (cmC o)
  low : Below w.heap.size w W
theorem BaI.put {w W : World} {r o o' : CmR} (h : BaI w r o W) (i : Nat) (v : Value) (e : (cmC o).setIfInBounds i v = cmC o') : BaI w r o' (W.setCell ⟨w.heap.size + 2, i, none⟩ v) :=
  ⟨(setCell_els W i v (by omega)).trans h.one, (setCell_els W i v (by omega)).trans h.res, e ▸ h.out.set i v, h.low.setCell (p := ⟨w.heap.size + 2, i, none⟩) (by simp) v⟩
set_option maxHeartbeats 8000000 in
theorem refBare_any (r : CmR) (w : World) (h : CmP w r) : Calls Tryz.prog 39 #[cmV r] w (fun e w' => e = .returned (cmV (bareR r)) ∧ Below w.heap.size w w') := by
  go_enter Tryz.func39, Tryz.ntmps39
  go_step
  go_step
  go_cut [1, 2] (fun p1 p2 wx => p1 = .pointer (some ⟨w.heap.size, 0, none⟩) ∧ p2 = .pointer (some ⟨w.heap.size + 1, 0, none⟩) ∧ Hid (Row wx w.heap.size 26 (cmC r) ∧ Row wx (w.heap.size + 1) 26 (cmC noCmR) ∧ Below w.heap.size w wx ∧ wx.heap.size = w.heap.size + 2))
  case first =>
    go_wp2_with fail
    go_meet
    have T := TwCm.begin w r noCmR h (CmP.none w)
    exact ⟨rfl, rfl, Lib.hid ⟨T.one, T.two, T.low, by simp⟩⟩
  case rest =>
    obtain ⟨rfl, rfl, H⟩ := hcut
    have c0 := H.out.1.m.1.1
    go_step
    go_step
    go_cut [3] (fun p3 wx => p3 = .pointer (some ⟨w.heap.size + 2, 0, none⟩) ∧ Hid (BaI w r (kindR r.m.kind) wx))
    case first =>
      go_wp2_with fail
      go_meet
      have R := Row.new wc (cmC (kindR r.m.kind)) 26
      rw [H.out.2.2.2] at R ⊢
      exact ⟨rfl, Lib.hid ⟨H.out.1.more _, H.out.2.1.more _, R, H.out.2.2.1.alloc H.out.2.2.1.size _⟩⟩
    case rest =>
      obtain ⟨rfl, I⟩ := hcut
      clear H c0
      obtain ⟨⟨c0, c1, c2, c3, c4⟩, c5, c6, c7, c8⟩ := I.out.one.m
      have f1 := I.out.out.free 1
      have f2 := I.out.out.free 2
      have f3 := I.out.out.free 3
      have f4 := I.out.out.free 4
      have f5 := I.out.out.free 5
      have f6 := I.out.out.free 6
      have f7 := I.out.out.free 7
      have f8 := I.out.out.free 8
      obtain ⟨⟨_, d1, d2, d3, d4⟩, d5, d6, d7, d8⟩ := I.out.out.m
      go_step
      go_step
      go_cut [3] (fun p3 wx => p3 = .pointer (some ⟨w.heap.size + 2, 0, none⟩) ∧ Hid (BaI w r (bareR r) wx))
      case first =>
        have hkk : r.m.kind = 1 ∨ r.m.kind = 2 ∨ r.m.kind = 8 ∨ r.m.kind = 3 ∨ r.m.kind = 4 ∨ r.m.kind = 5 ∨ (r.m.kind ≠ 1 ∧ r.m.kind ≠ 2 ∧ r.m.kind ≠ 8 ∧ r.m.kind ≠ 3 ∧ r.m.kind ≠ 4 ∧ r.m.kind ≠ 5) := by omega
        rcases hkk with hk | hk | hk | hk | hk | hk | hk
        · have HX := Lib.hid (show bareR r = ⟨⟨r.m.kind, r.m.id, r.m.ls, r.m.car, r.m.zone, r.m.serv, r.m.total, 0, false⟩, r.a, r.c⟩ by simp [bareR, bareC, hk])
          rw [hk] at c0
          clear hk
          go_wp2_with fail
          go_meet
          exact ⟨rfl, by rw [HX.out]; exact Lib.hid (BaI.put (o := ⟨⟨r.m.kind, r.m.id, r.m.ls, r.m.car, r.m.zone, r.m.serv, 0, 0, false⟩, r.a, r.c⟩) (BaI.put (o := ⟨⟨r.m.kind, r.m.id, r.m.ls, r.m.car, r.m.zone, ⟨#[]⟩, 0, 0, false⟩, r.a, r.c⟩) (BaI.put (o := ⟨⟨r.m.kind, r.m.id, r.m.ls, r.m.car, ⟨#[]⟩, ⟨#[]⟩, 0, 0, false⟩, r.a, r.c⟩) (BaI.put (o := ⟨⟨r.m.kind, r.m.id, r.m.ls, ⟨#[]⟩, ⟨#[]⟩, ⟨#[]⟩, 0, 0, false⟩, r.a, r.c⟩) (BaI.put (o := ⟨⟨r.m.kind, r.m.id, [], ⟨#[]⟩, ⟨#[]⟩, ⟨#[]⟩, 0, 0, false⟩, none, 0⟩) (BaI.put (I.out) 1 _ rfl) 2 _ rfl) 3 _ rfl) 4 _ rfl) 5 _ rfl) 6 _ rfl)⟩
        · have HX := Lib.hid (show bareR r = ⟨⟨r.m.kind, r.m.id, [], ⟨#[]⟩, ⟨#[]⟩, ⟨#[]⟩, 0, 0, false⟩, none, 0⟩ by simp [bareR, bareC, hk])
          rw [hk] at c0
          clear hk
          go_wp2_with fail
          go_meet
          exact ⟨rfl, by rw [HX.out]; exact Lib.hid (I.out.put 1 _ rfl)⟩
        · have HX := Lib.hid (show bareR r = ⟨⟨r.m.kind, r.m.id, [], ⟨#[]⟩, ⟨#[]⟩, ⟨#[]⟩, 0, 0, false⟩, none, 0⟩ by simp [bareR, bareC, hk])
          rw [hk] at c0
          clear hk
          go_wp2_with fail
          go_meet
          exact ⟨rfl, by rw [HX.out]; exact Lib.hid (I.out.put 1 _ rfl)⟩
        · have HX := Lib.hid (show bareR r = ⟨⟨r.m.kind, r.m.id, [], r.m.car, r.m.zone, r.m.serv, 0, 0, false⟩, none, 0⟩ by simp [bareR, bareC, hk])
          rw [hk] at c0
          clear hk
          go_wp2_with fail
          go_meet
          exact ⟨rfl, by rw [HX.out]; exact Lib.hid (BaI.put (o := ⟨⟨r.m.kind, r.m.id, [], r.m.car, r.m.zone, ⟨#[]⟩, 0, 0, false⟩, none, 0⟩) (BaI.put (o := ⟨⟨r.m.kind, r.m.id, [], r.m.car, ⟨#[]⟩, ⟨#[]⟩, 0, 0, false⟩, none, 0⟩) (BaI.put (o := ⟨⟨r.m.kind, r.m.id, [], ⟨#[]⟩, ⟨#[]⟩, ⟨#[]⟩, 0, 0, false⟩, none, 0⟩) (BaI.put (I.out) 1 _ rfl) 3 _ rfl) 4 _ rfl) 5 _ rfl)⟩
        · have HX := Lib.hid (show bareR r = ⟨⟨r.m.kind, ⟨#[]⟩, [], ⟨#[]⟩, ⟨#[]⟩, ⟨#[]⟩, 0, r.m.number, false⟩, none, 0⟩ by simp [bareR, bareC, hk])
          rw [hk] at c0
          clear hk
          go_wp2_with fail
          go_meet
          exact ⟨rfl, by rw [HX.out]; exact Lib.hid (I.out.put 7 _ rfl)⟩
        · have HX := Lib.hid (show bareR r = ⟨⟨r.m.kind, ⟨#[]⟩, [], ⟨#[]⟩, ⟨#[]⟩, ⟨#[]⟩, 0, r.m.number, r.m.yes⟩, none, 0⟩ by simp [bareR, bareC, hk])
          rw [hk] at c0
          clear hk
          go_wp2_with fail
          go_meet
          exact ⟨rfl, by rw [HX.out]; exact Lib.hid (BaI.put (o := ⟨⟨r.m.kind, ⟨#[]⟩, [], ⟨#[]⟩, ⟨#[]⟩, ⟨#[]⟩, 0, r.m.number, false⟩, none, 0⟩) (I.out.put 7 _ rfl) 8 _ rfl)⟩
        · obtain ⟨q1, q2, q3, q4, q5, q6⟩ := hk
          have HX := Lib.hid (show kindR r.m.kind = bareR r by simp [kindR, bareR, bareC, q1, q2, q3, q4, q5, q6])
          have e1 : (r.m.kind == 1) = false := by simpa using q1
          have e2 : (r.m.kind == 2) = false := by simpa using q2
          have e3 : (r.m.kind == 8) = false := by simpa using q3
          have e4 : (r.m.kind == 3) = false := by simpa using q4
          have e5 : (r.m.kind == 4) = false := by simpa using q5
          have e6 : (r.m.kind == 5) = false := by simpa using q6
          clear q1 q2 q3 q4 q5 q6
          go_wp2_with fail
          go_meet
          exact ⟨rfl, by rw [← HX.out]; exact I⟩
      case rest =>
        obtain ⟨rfl, I⟩ := hcut
        have l1 := ld_cm I.out.out
        have s1 := st_cm I.out.res (bareR r)
        go_wp2_with fail
        (try simp only [Exit.inBlock, Exit.then])
        apply bodyPost_ret
        case hd => rfl
        case hr => exact results_cell_alone rfl _ _ (w.heap.size + 1) _ rfl (loadCm (setRow_heap _ _ _ _ _ _ I.out.res))
        case hR => exact ⟨rfl, Below.row I.out.low (by omega) _⟩

attribute [local go_sem ↓] ldGr bxGr eqGr
attribute [local go_sem] bx_gr ne_gr eq_grX

set_option maxHeartbeats 4000000 in
theorem refCmSame_any (r s : CmR) (w : World) (h : CmP w r) (hs : CmP w s) : Calls Tryz.prog 16 #[cmV r, cmV s] w (Tell (sameCm r.m s.m) w) := by
  have I := Lib.hid (TwCm.begin w r s h hs)
  have HE := Lib.hid (show sameCm r.m s.m = ((r.m.kind == s.m.kind) && ((r.m.id.toList == s.m.id.toList) && (sameL r.m.ls s.m.ls && (sameG r.m.car r.m.zone r.m.serv s.m.car s.m.zone s.m.serv && ((r.m.total == s.m.total) && ((r.m.number == s.m.number) && (r.m.yes == s.m.yes))))))) from rfl)
  generalize sameCm r.m s.m = res at *
  have hl := h.len
  have hls := hs.len
  obtain ⟨⟨c0, c1, c2, c3, c4⟩, c5, c6, c7, c8⟩ := I.out.one.m
  obtain ⟨⟨d0, d1, d2, d3, d4⟩, d5, d6, d7, d8⟩ := I.out.two.m
  clear h hs
  go_enter Tryz.func16, Tryz.ntmps16
  cases k1 : (r.m.kind == s.m.kind) with
  | false =>
    have HX := Lib.hid (show res = false by rw [HE.out]; simp only [k1, Bool.false_and])
    go_wp2_with fail
    go_ret
    exact ⟨by rw [HX.out]; try rfl, I.out.low⟩
  | true =>
    cases k2 : (r.m.id.toList == s.m.id.toList) with
    | false =>
      have HX := Lib.hid (show res = false by rw [HE.out]; simp only [k1, k2, Bool.true_and, Bool.false_and])
      go_wp2_with fail
      go_ret
      exact ⟨by rw [HX.out]; try rfl, I.out.low⟩
    | true =>
      go_wp2_with fail
      generalize (w.alloc (.cells (cmC r) 26)).alloc (.cells (cmC s) 26) = W0 at *
      have C := Lib.hid (refSame_any r.a s.a r.c s.c r.m.ls s.m.ls W0 I.out.st.lns I.out.su.lns hl hls)
      refine C.out.mono ?_
      rintro e W4 ⟨rfl, b1⟩
      replace I := Lib.hid (I.out.below b1)
      clear C b1 c0 c1 c2 c3 c4 c5 c6 c7 c8 d0 d1 d2 d3 d4 d5 d6 d7 d8
      obtain ⟨⟨_, _, _, c3, c4⟩, c5, c6, c7, c8⟩ := I.out.one.m
      obtain ⟨⟨_, _, _, d3, d4⟩, d5, d6, d7, d8⟩ := I.out.two.m
      have g1 := ld_grAt c3 c4 c5
      have g2 := ld_grAt d3 d4 d5
      clear c3 c4 c5 d3 d4 d5
      cases k3 : sameL r.m.ls s.m.ls with
      | false =>
        have HX := Lib.hid (show res = false by rw [HE.out]; simp only [k1, k2, k3, Bool.true_and, Bool.false_and])
        go_wp2_with fail
        go_ret
        exact ⟨by rw [HX.out]; try rfl, I.out.low⟩
      | true =>
        cases k4 : sameG r.m.car r.m.zone r.m.serv s.m.car s.m.zone s.m.serv with
        | false =>
          have HX := Lib.hid (show res = false by rw [HE.out]; simp only [k1, k2, k3, k4, Bool.true_and, Bool.false_and])
          go_wp2_with fail
          go_ret
          exact ⟨by rw [HX.out]; try rfl, I.out.low⟩
        | true =>
          cases k5 : (r.m.total == s.m.total) with
          | false =>
            have HX := Lib.hid (show res = false by rw [HE.out]; simp only [k1, k2, k3, k4, k5, Bool.true_and, Bool.false_and])
            go_wp2_with fail
            go_ret
            exact ⟨by rw [HX.out]; try rfl, I.out.low⟩
          | true =>
            cases k6 : (r.m.number == s.m.number) with
            | false =>
              have HX := Lib.hid (show res = false by rw [HE.out]; simp only [k1, k2, k3, k4, k5, k6, Bool.true_and, Bool.false_and])
              go_wp2_with fail
              go_ret
              exact ⟨by rw [HX.out]; try rfl, I.out.low⟩
            | true =>
              cases k7 : (r.m.yes == s.m.yes) with
              | false =>
                have HX := Lib.hid (show res = false by rw [HE.out]; simp only [k1, k2, k3, k4, k5, k6, k7, Bool.true_and])
                go_wp2_with fail
                go_ret
                exact ⟨by rw [HX.out]; try rfl, I.out.low⟩
              | true =>
                have HX := Lib.hid (show res = true by rw [HE.out]; simp only [k1, k2, k3, k4, k5, k6, k7, Bool.true_and])
                go_wp2_with fail
                go_ret
                exact ⟨by rw [HX.out]; try rfl, I.out.low⟩

/-- A command in its variable. -/
structure OnCm (w : World) (r : CmR) (W : World) : Prop where
  one : Row W w.heap.size 26 (cmC r)
  cm : CmP W r
  low : Below w.heap.size w W
theorem OnCm.below {w W W' : World} {r : CmR} (h : OnCm w r W) (b : Below W.heap.size W W') : OnCm w r W' := ⟨h.one.below b, h.cm.below b, h.low.trans (b.mono h.low.size)⟩
theorem OnCm.begin (w : World) (r : CmR) (h : CmP w r) : OnCm w r (w.alloc (.cells (cmC r) 26)) := by
  have b : Below w.heap.size w (w.alloc (.cells (cmC r) 26)) := (Below.refl _ _).alloc (Nat.le_refl _) _
  exact ⟨Row.new _ _ _, h.below b, b⟩

set_option maxHeartbeats 8000000 in
theorem refCmRight_any (r : CmR) (w : World) (h : CmP w r) : Calls Tryz.prog 14 #[cmV r] w (Tell (rightC r.m) w) := by
  have I := Lib.hid (OnCm.begin w r h)
  have HE := Lib.hid (show rightC r.m = (sameCm r.m (bareC r.m) && fitsC r.m) from rfl)
  generalize rightC r.m = res at *
  have hid := h.id
  have C3 := Lib.hid (fun W => show Calls Tryz.prog 40 #[.string r.m.id] W (Tell (rightT r.m.id) W) from refRight_any r.m.id W h.id)
  have C4 := Lib.hid (fun W hW => refRight15_any r.a r.c r.m.ls W hW h.len)
  have C5 := Lib.hid (fun W => show Calls Tryz.prog 42 #[grV r.m.car r.m.zone r.m.serv] W (Tell (groupB r.m.car r.m.zone r.m.serv) W) from refGroup_any r.m.car r.m.zone r.m.serv W h.car h.zone h.serv)
  have C6 := Lib.hid (fun W => refTally_any r.m.total W)
  clear h
  go_enter Tryz.func14, Tryz.ntmps14
  go_wp2_with fail
  generalize w.alloc (.cells (cmC r) 26) = W0 at *
  have f1 : ∀ p : Far W0, LdX 26 (.pointer (some ⟨w.heap.size, 0, none⟩)) (farOf W0 p) = .ok (.value (cmV r)) (farOf W0 p) := fun p => ld_cm (I.out.below (far_below W0 p)).one
  have C1 := Lib.hid (fun p : Far W0 => refBare_any r _ (I.out.below (far_below W0 p)).cm)
  have C2 := Lib.hid (fun p : Far W0 => show Calls Tryz.prog 16 #[cmV r, cmV (bareR r)] (farOf W0 p) (Tell (sameCm r.m (bareC r.m)) (farOf W0 p)) from refCmSame_any r (bareR r) _ (I.out.below (far_below W0 p)).cm (bareR_p (I.out.below (far_below W0 p)).cm))
  generalize sameCm r.m (bareC r.m) = k0 at *
  refine wp_region_far (by kernel_rfl) (by kernel_rfl) ?_
  repeat (first | go_big_quiet_step (first | (go_at_call 39; exact calls_far (C1.out _)) | (go_at_call 16; exact calls_far (C2.out _))) | quiet_step (first | (go_at_call 39; exact calls_far (C1.out _)) | (go_at_call 16; exact calls_far (C2.out _))))
  refine wpQuiet_nil ?_
  intro _ hw'
  obtain ⟨p, hw''⟩ := hw'
  subst hw''
  replace I := Lib.hid (I.out.below (far_below W0 p))
  clear f1 C1 C2
  generalize farOf W0 p = W1 at *
  cases k0 with
  | false =>
    have HX := Lib.hid (show res = false by rw [HE.out, Bool.false_and])
    go_wp2_with fail
    go_ret
    exact ⟨by rw [HX.out]; try rfl, I.out.low⟩
  | true =>
    have HF := Lib.hid (show res = fitsC r.m by rw [HE.out, Bool.true_and])
    obtain ⟨⟨c0, c1, _, _, _⟩, _, _, _, _⟩ := I.out.one.m
    go_wp2_with fail
    refine (C3.out _).mono ?_
    rintro e W2 ⟨rfl, b2⟩
    replace I := Lib.hid (I.out.below b2)
    clear c0 c1 C3 b2
    obtain ⟨⟨c0, c1, c2, c3, c4⟩, c5, c6, c7, c8⟩ := I.out.one.m
    have g1 := ld_grAt c3 c4 c5
    clear c1 c3 c4 c5 c8
    have hkk : r.m.kind = 1 ∨ r.m.kind = 2 ∨ r.m.kind = 8 ∨ r.m.kind = 3 ∨ r.m.kind = 4 ∨ r.m.kind = 5 ∨ r.m.kind = 6 ∨ r.m.kind = 7 ∨ (r.m.kind ≠ 1 ∧ r.m.kind ≠ 2 ∧ r.m.kind ≠ 8 ∧ r.m.kind ≠ 3 ∧ r.m.kind ≠ 4 ∧ r.m.kind ≠ 5 ∧ r.m.kind ≠ 6 ∧ r.m.kind ≠ 7) := by omega
    rcases hkk with hk | hk | hk | hk | hk | hk | hk | hk | hk
    · have HG := Lib.hid (show res = (rightT r.m.id && (rightLB r.m.ls && (groupB r.m.car r.m.zone r.m.serv && tallyB r.m.total))) by rw [HF.out]; simp [fitsC, hk])
      rw [hk] at c0
      clear hk
      cases k1 : rightT r.m.id with
      | false =>
        have HX := Lib.hid (show res = false by rw [HG.out, k1, Bool.false_and])
        go_wp2_with fail
        go_ret
        exact ⟨by rw [HX.out]; try rfl, I.out.low⟩
      | true =>
        go_wp2_with fail
        refine (C4.out _ I.out.cm.lns).mono ?_
        rintro e W3 ⟨rfl, b3⟩
        replace I := Lib.hid (I.out.below b3)
        clear c0 c2 g1 c6 c7 b3 C4
        obtain ⟨⟨c0, c1, c2, c3, c4⟩, c5, c6, c7, c8⟩ := I.out.one.m
        have g1 := ld_grAt c3 c4 c5
        clear c0 c1 c2 c3 c4 c5 c7 c8
        cases k2 : rightLB r.m.ls with
        | false =>
          have HX := Lib.hid (show res = false by rw [HG.out, k1, k2]; rfl)
          go_wp2_with fail
          go_ret
          exact ⟨by rw [HX.out]; try rfl, I.out.low⟩
        | true =>
          go_wp2_with fail
          refine (C5.out _).mono ?_
          rintro e W4 ⟨rfl, b4⟩
          replace I := Lib.hid (I.out.below b4)
          clear g1 c6 b4 C5
          have c6 := I.out.one.m.2.2.1
          cases k3 : groupB r.m.car r.m.zone r.m.serv with
          | false =>
            have HX := Lib.hid (show res = false by rw [HG.out, k1, k2, k3]; rfl)
            go_wp2_with fail
            go_ret
            exact ⟨by rw [HX.out]; try rfl, I.out.low⟩
          | true =>
            have HX := Lib.hid (show res = tallyB r.m.total by rw [HG.out, k1, k2, k3]; rfl)
            go_wp2_with fail
            refine (C6.out _).mono ?_
            rintro e W5 ⟨rfl, rfl⟩
            go_wp2_with fail
            go_ret
            exact ⟨by rw [HX.out]; try rfl, I.out.low⟩
    · have HX := Lib.hid (show res = rightT r.m.id by rw [HF.out]; simp [fitsC, hk])
      rw [hk] at c0
      clear hk
      go_wp2_with fail
      go_ret
      exact ⟨by rw [HX.out]; try rfl, I.out.low⟩
    · have HX := Lib.hid (show res = rightT r.m.id by rw [HF.out]; simp [fitsC, hk])
      rw [hk] at c0
      clear hk
      go_wp2_with fail
      go_ret
      exact ⟨by rw [HX.out]; try rfl, I.out.low⟩
    · have HG := Lib.hid (show res = (rightT r.m.id && groupB r.m.car r.m.zone r.m.serv) by rw [HF.out]; simp [fitsC, hk])
      rw [hk] at c0
      clear hk
      cases k1 : rightT r.m.id with
      | false =>
        have HX := Lib.hid (show res = false by rw [HG.out, k1, Bool.false_and])
        go_wp2_with fail
        go_ret
        exact ⟨by rw [HX.out]; try rfl, I.out.low⟩
      | true =>
        have HX := Lib.hid (show res = groupB r.m.car r.m.zone r.m.serv by rw [HG.out, k1, Bool.true_and])
        go_wp2_with fail
        refine (C5.out _).mono ?_
        rintro e W4 ⟨rfl, b4⟩
        replace I := Lib.hid (I.out.below b4)
        clear g1 c0 c2 c6 c7 b4 C5
        go_wp2_with fail
        go_ret
        exact ⟨by rw [HX.out]; try rfl, I.out.low⟩
    · have HG := Lib.hid (show res = (decide (1 ≤ r.m.number) && decide (r.m.number ≤ 96)) by rw [HF.out]; simp [fitsC, hk])
      rw [hk] at c0
      clear hk
      cases k1 : decide (1 ≤ r.m.number) with
      | false =>
        have HX := Lib.hid (show res = false by rw [HG.out, k1, Bool.false_and])
        go_wp2_with fail
        go_ret
        exact ⟨by rw [HX.out]; try rfl, I.out.low⟩
      | true =>
        have HX := Lib.hid (show res = decide (r.m.number ≤ 96) by rw [HG.out, k1, Bool.true_and])
        go_wp2_with fail
        go_ret
        exact ⟨by rw [HX.out]; try rfl, I.out.low⟩
    · have HG := Lib.hid (show res = (decide (1 ≤ r.m.number) && decide (r.m.number ≤ 1000000000000)) by rw [HF.out]; simp [fitsC, hk, aboveB])
      rw [hk] at c0
      clear hk
      cases k1 : decide (1 ≤ r.m.number) with
      | false =>
        have HX := Lib.hid (show res = false by rw [HG.out, k1, Bool.false_and])
        go_wp2_with fail
        go_ret
        exact ⟨by rw [HX.out]; try rfl, I.out.low⟩
      | true =>
        have HX := Lib.hid (show res = decide (r.m.number ≤ 1000000000000) by rw [HG.out, k1, Bool.true_and])
        go_wp2_with fail
        go_ret
        exact ⟨by rw [HX.out]; try rfl, I.out.low⟩
    · have HX := Lib.hid (show res = true by rw [HF.out]; simp [fitsC, hk])
      rw [hk] at c0
      clear hk
      go_wp2_with fail
      go_ret
      exact ⟨by rw [HX.out]; try rfl, I.out.low⟩
    · have HX := Lib.hid (show res = true by rw [HF.out]; simp [fitsC, hk])
      rw [hk] at c0
      clear hk
      go_wp2_with fail
      go_ret
      exact ⟨by rw [HX.out]; try rfl, I.out.low⟩
    · obtain ⟨q1, q2, q3, q4, q5, q6, q7, q8⟩ := hk
      have HX := Lib.hid (show res = false by rw [HF.out]; simp [fitsC, q1, q2, q3, q4, q5, q6, q7, q8])
      have e1 : (r.m.kind == 1) = false := by simpa using q1
      have e2 : (r.m.kind == 2) = false := by simpa using q2
      have e3 : (r.m.kind == 8) = false := by simpa using q3
      have e4 : (r.m.kind == 3) = false := by simpa using q4
      have e5 : (r.m.kind == 4) = false := by simpa using q5
      have e6 : (r.m.kind == 5) = false := by simpa using q6
      have e7 : (r.m.kind == 6) = false := by simpa using q7
      have e8 : (r.m.kind == 7) = false := by simpa using q8
      clear q1 q2 q3 q4 q5 q6 q7 q8
      go_wp2_with fail
      go_ret
      exact ⟨by rw [HX.out]; try rfl, I.out.low⟩
end

/- SnRef2: The document's bytes of numbers, of a group, of a command. -/
section
set_option maxRecDepth 100000
open Go.RowKit Go.ChangeShapes Go.WideShapes Go.ChangeAt
attribute [local go_sem ↓] ldCm stCm alCm bxCm bdCm ldGr bxGr eqGr
attribute [local go_sem] al_cm bx_cm st_cmnew bd_cm bd_cmKind bx_gr ne_gr eq_grX

set_option maxHeartbeats 4000000 in
theorem refNumbers_any (a : Option Addr) (cap : Nat) (l : List Int) (w : World) (h : IntsP w a cap l) (hr : ∀ x ∈ l, 0 ≤ x ∧ x < 9223372036854775808) (hl : l.length ≤ 100000) :
    Calls Tryz.prog 50 #[.slice a l.length cap] w (OwnPost (numsL (natsI l)) w) := by
  have H := Lib.hid h
  have hcap := h.cap
  have HR := Lib.hid hr
  have OE := Lib.hid (own_fresh w w.heap.size (Nat.le_refl _))
  have BW := Lib.hid ((Below.refl w.heap.size w).alloc (Nat.le_refl _) (.cells #[] 5))
  clear h hr
  go_enter Tryz.func50, Tryz.ntmps50
  go_wp2_with fail
  go_loopw [3, 9] (fun v i wr => ∃ (k : Nat) (acc : List Nat), k ≤ l.length ∧ i = .int .i64 k ∧ Hid (OwnB wr w.heap.size v acc) ∧ Hid (acc ++ numsL (natsI (l.drop k)) = numsL (natsI l)) ∧ acc.length ≤ 10 * k ∧ Hid (Below w.heap.size w wr)) (fun _ i _ => l.length - (intOf i).toNat)
  case atStart => exact ⟨0, [], Nat.zero_le _, rfl, OE, Lib.hid rfl, by simp, BW⟩
  case round =>
    clear OE BW
    obtain ⟨k, acc, hk, rfl, O, HS, hac, B⟩ := hrel
    have hB := B.out.size
    by_cases hlt : k < l.length
    · obtain ⟨b, o, rfl, hb, c1⟩ := (H.out.below B.out).at k hlt
      obtain ⟨n, hn⟩ : ∃ n : Nat, l[k] = (n : Int) := ⟨l[k].toNat, by have := HR.out _ (List.getElem_mem hlt); omega⟩
      have hn2 : n < 9223372036854775808 := by have := HR.out _ (List.getElem_mem hlt); omega
      have HD := Lib.hid (show numsL (natsI (l.drop k)) = numL n ++ numsL (natsI (l.drop (k + 1))) by rw [List.drop_eq_getElem_cons hlt, natsI_cons, numsL_one, hn, Int.toNat_natCast])
      rw [hn] at c1
      have C := Lib.hid (fun W => refNumber_any n W (by omega))
      have Y := Lib.hid (numL_bytes n)
      have hy := numL_ten (show n < 18446744073709551616 by omega)
      have hw : IntKind.u64.wrap (n : Int) = (n : Int) := by rw [IntKind.wrap_u64]; omega
      clear hn
      generalize numL n = y at *
      go_wp2_with fail
      refine (C.out _).mono ?_
      rintro e x2 ⟨u2, rfl, q2, b2⟩
      obtain ⟨a2, p2, e2, h2⟩ := q2.bytes Y.out
      subst e2
      have O2 := Lib.hid (O.out.below b2)
      have B2 := Lib.hid (B.out.trans (b2.mono hB))
      have H2 := Lib.hid h2
      clear q2 b2 h2 C
      have hB2 := B2.out.size
      go_wp2_with (at_builtin; go_must (refine wpList_append_bytes rfl _ _ rfl w.heap.size _ acc y rfl O2.out a2 p2 rfl H2.out (by omega) hB2 ?_))
      rintro v2 w2 o2 g2
      have B3 := Lib.hid (B2.out.grown g2 hB2 O2.out.row)
      have O3 := Lib.hid o2
      clear o2 g2 O2 B2 H2
      go_wp2_with fail
      go_roundw
      case rel => exact ⟨k + 1, acc ++ y, by omega, by go_num, O3, Lib.hid (by rw [List.append_assoc, ← HD.out, HS.out]), by rw [List.length_append]; omega, B3⟩
      case measure => simp [intOf]; omega
    · have HE := Lib.hid (show acc = numsL (natsI l) by
        have := HS.out
        rw [List.drop_eq_nil_of_le (by omega)] at this
        simpa [natsI, numsL] using this)
      go_wp2_with fail
      go_ret
      refine ⟨_, rfl, ?_, B.out⟩
      rw [← HE.out]
      exact O.out

theorem wp_app_bytes {w : World} {o : Oper} {a : Act} {K : Act → World → Prop} {Q : Exit → Act → World → Prop} (s x : Operand)
    (ho : o.op = .call { callee := .builtin .append, args := #[s, x], argTypes := #[40, 40] }) (base : Nat) (v : Value) (xs ys : List Nat) (hs : a.eval s = v) (hown : OwnB w base v xs) (A : Option Addr) (cA : Nat)
    (hx : a.eval x = .slice A ys.length cA) (hy : BytesP w A cA ys) (hlen : xs.length + ys.length ≤ 10000000) (hb : base ≤ w.heap.size)
    (h : ∀ v' w', OwnB w' base v' (xs ++ ys) → w.grownBy w' v.ownBlock → K (a.put o.dst v') w') : o.wp Tryz.prog a w K Q := by
  obtain ⟨v', w', hr, h1, h2⟩ := run_append_bytes w base v xs ys hown A cA hy hlen hb o.type
  unfold Oper.wp execOp
  simp only [ho, resolve, invoke, builtin, Sem.run_bind, Sem.run_pure, Result.andThen_ok, List.map_toArray, List.map_cons, List.map_nil, hs, hx, hr]
  exact h v' w' h1 h2
theorem step_app_bytes {w : World} {ops : Array Oper} {o : Oper} {a : Act} {K : Act → World → Prop} {Q : Exit → Act → World → Prop} {E : Prop} (hgd : o.guard = none) (s x : Operand)
    (ho : o.op = .call { callee := .builtin .append, args := #[s, x], argTypes := #[40, 40] }) (base : Nat) (v : Value) (xs ys : List Nat) (hs : a.eval s = v) (hown : OwnB w base v xs) (A : Option Addr) (cA : Nat)
    (hx : a.eval x = .slice A ys.length cA) (hy : BytesP w A cA ys) (hlen : xs.length + ys.length ≤ 10000000) (hb : base ≤ w.heap.size)
    (h : ∀ v' w', OwnB w' base v' (xs ++ ys) → w.grownBy w' v.ownBlock → K (a.put o.dst v') w') :
    if Region.wanted o (yielded ops a.tmps) = true then Oper.wp Tryz.prog o a w K Q else E := by
  have hw : Region.wanted o (yielded ops a.tmps) = true := by simp [Region.wanted, hgd]
  rw [if_pos hw]
  exact wp_app_bytes s x ho base v xs ys hs hown A cA hx hy hlen hb h
/-- Bytes of their own, and where they are. -/
structure OwnAt (W : World) (lo hi : Nat) (A : Option Addr) (p : Nat) (y : List Nat) : Prop where
  own : OwnB W lo (.slice A y.length p) y
  bytes : BytesP W A p y
  at' : ∀ x, A = some x → lo ≤ x.block ∧ x.block < hi
theorem OwnAt.below {W W' : World} {lo hi p : Nat} {A : Option Addr} {y : List Nat} (h : OwnAt W lo hi A p y) (b : Below W.heap.size W W') : OwnAt W' lo hi A p y := ⟨h.own.below b, h.bytes.below b, h.at'⟩
/-- A group in its variable. -/
structure GrI (w : World) (a b c : ByteArray) (W : World) : Prop where
  one : Row W w.heap.size 24 (grC a b c)
  low : Below w.heap.size w W
theorem GrI.below {w W W' : World} {a b c : ByteArray} (h : GrI w a b c W) (bl : Below W.heap.size W W') : GrI w a b c W' := ⟨h.one.below bl, h.low.trans (bl.mono h.low.size)⟩
theorem GrI.grown {w W W' : World} {a b c : ByteArray} {v : Value} {l : List Nat} (h : GrI w a b c W) (o : OwnB W (w.heap.size + 1) v l) (g : W.grownBy W' v.ownBlock) : GrI w a b c W' := by
  have hr := o.row
  exact ⟨(g.block _ h.one.lt (fun e => by have := hr _ e.symm; omega)).trans h.one, h.low.grown g h.low.size (fun k hk => by have := hr k hk; omega)⟩
theorem grS {w W : World} {a b c : ByteArray} (h : GrI w a b c W) : W.cell? ⟨w.heap.size, 0, none⟩ = some (.string a) ∧ W.cell? ⟨w.heap.size, 1, none⟩ = some (.string b) ∧ W.cell? ⟨w.heap.size, 2, none⟩ = some (.string c) ∧ GrI w a b c W := ⟨h.one.cell 0, h.one.cell 1, h.one.cell 2, h⟩
/-- What Text answers beside the group. -/
def TxG (w : World) (a b c : ByteArray) (y : List Nat) (W : World) (e : Ending) (w' : World) : Prop := ∃ A p, e = .returned (.slice A y.length p) ∧ OwnAt w' (w.heap.size + 1) w'.heap.size A p y ∧ (∀ x, A = some x → W.heap.size ≤ x.block) ∧ Below W.heap.size W w' ∧ (w'.cell? ⟨w.heap.size, 0, none⟩ = some (.string a) ∧ w'.cell? ⟨w.heap.size, 1, none⟩ = some (.string b) ∧ w'.cell? ⟨w.heap.size, 2, none⟩ = some (.string c) ∧ GrI w a b c w')
theorem txG {w : World} {a b c s : ByteArray} (hs : s.size ≤ 32) {y : List Nat} (hy : textL s = y) (W : World) (h : W.cell? ⟨w.heap.size, 0, none⟩ = some (.string a) ∧ W.cell? ⟨w.heap.size, 1, none⟩ = some (.string b) ∧ W.cell? ⟨w.heap.size, 2, none⟩ = some (.string c) ∧ GrI w a b c W) : Calls Tryz.prog 51 #[.string s] W (TxG w a b c y W) := by
  refine (refText_any s W (by omega)).mono ?_
  rintro e w' ⟨v, rfl, o, b⟩
  rw [hy] at o
  obtain ⟨A, p, rfl, hb⟩ := o.bytes (by rw [← hy]; exact textL_bytes s)
  have hl : ∀ x, A = some x → W.heap.size ≤ x.block ∧ x.block < w'.heap.size := by
    intro x hx
    rcases o.2 with ⟨e, _⟩ | ⟨g, cap, cur, e, h1, h2, _⟩
    · injection e with e
      rw [hx] at e
      cases e
    · injection e with e
      rw [hx] at e
      injection e with e
      subst e
      exact ⟨h1, (Array.getElem?_eq_some_iff.1 h2).1⟩
  have hlt := h.2.2.2.one.lt
  exact ⟨A, p, rfl, ⟨o.base hlt, hb, fun x hx => ⟨by have := (hl x hx).1; omega, (hl x hx).2⟩⟩, fun x hx => (hl x hx).1, b, grS (h.2.2.2.below b)⟩
/-- Bytes that lie elsewhere than the block that grows. -/
theorem bytes_grown {W W' : World} {A : Option Addr} {p k : Nat} {y : List Nat} {v : Value} (hb : BytesP W A p y) (ha : ∀ x, A = some x → k ≤ x.block) (hv : ∀ g, v.ownBlock = some g → g < k) (g : W.grownBy W' v.ownBlock) : BytesP W' A p y := by
  refine ⟨hb.cap, hb.len, hb.byte, fun hne => ?_⟩
  obtain ⟨b, o, e, hlt, hc⟩ := hb.cell hne
  refine ⟨b, o, e, Nat.lt_of_lt_of_le hlt g.size, fun j x hj => ?_⟩
  have hk := ha _ e
  rw [World.cell?_of_block (a := ⟨b, o + j, none⟩) (g.block b hlt (fun h => by
    have := hv b h.symm
    have hk2 : k ≤ b := hk
    omega))]
  exact hc j x hj
theorem own_before {W : World} {lo hi k p : Nat} {A : Option Addr} {y : List Nat} (h : OwnAt W lo hi A p y) (hk : hi ≤ k) : ∀ g, (Value.slice A y.length p).ownBlock = some g → g < k := by
  intro g hg
  cases A with
  | none => cases hg
  | some x =>
    have h1 := (h.at' x rfl).2
    injection hg with hg
    omega

set_option maxHeartbeats 8000000 in
theorem refGroupL_any (a b c : ByteArray) (w : World) (ha : a.size ≤ 32) (hb : b.size ≤ 32) (hc : c.size ≤ 32) :
    Calls Tryz.prog 52 #[grV a b c] w (OwnPost ((textL a ++ textL b) ++ textL c) w) := by
  have I0 : Hid (GrI w a b c (w.alloc (.cells (grC a b c) 24))) := Lib.hid ⟨Row.new _ _ _, (Below.refl _ _).alloc (Nat.le_refl _) _⟩
  obtain ⟨ya, hya⟩ : ∃ ya, textL a = ya := ⟨_, rfl⟩
  obtain ⟨yb, hyb⟩ : ∃ yb, textL b = yb := ⟨_, rfl⟩
  obtain ⟨yc, hyc⟩ : ∃ yc, textL c = yc := ⟨_, rfl⟩
  have C1 := Lib.hid (fun W h => txG (w := w) (a := a) (b := b) (c := c) ha hya W h)
  have C2 := Lib.hid (fun W h => txG (w := w) (a := a) (b := b) (c := c) hb hyb W h)
  have C3 := Lib.hid (fun W h => txG (w := w) (a := a) (b := b) (c := c) hc hyc W h)
  have l1 := textL_32 ha
  have l2 := textL_32 hb
  have l3 := textL_32 hc
  rw [hya] at l1 ⊢
  rw [hyb] at l2 ⊢
  rw [hyc] at l3 ⊢
  have hl12 : (ya ++ yb).length ≤ 84 := by rw [List.length_append]; omega
  clear hya hyb hyc
  go_enter Tryz.func52, Tryz.ntmps52
  go_wp2_with fail
  generalize w.alloc (.cells (grC a b c) 24) = W0 at *
  have hd0 : Below W0.heap.size W0 W0.drew := ⟨rfl, rfl, rfl, Nat.le_refl _, fun _ _ => rfl⟩
  go_region_held3 (fun W' => W'.cell? ⟨w.heap.size, 0, none⟩ = some (.string a) ∧ W'.cell? ⟨w.heap.size, 1, none⟩ = some (.string b) ∧ W'.cell? ⟨w.heap.size, 2, none⟩ = some (.string c) ∧ GrI w a b c W')
    (first | assumption | exact grS (I0.out.below hd0))
    (first
      | ((try go_simp); go_at_call 51; have _n := q2; refine Calls.mono (C3.out _ ?h0) ?_; (case h0 => assumption); rintro e w3 ⟨A3, p3, rfl, q3, r3, b3, k3⟩; (first | have q12 := OwnB.below q12 b3 | (have q1 := OwnAt.below q1 b3; have q2 := OwnAt.below q2 b3)))
      | ((try go_simp); go_at_call 51; have _n := q1; refine Calls.mono (C2.out _ ?h0) ?_; (case h0 => assumption); rintro e w2 ⟨A2, p2, rfl, q2, r2, b2, k2⟩; have q1 := OwnAt.below q1 b2)
      | ((try go_simp); go_at_call 51; refine Calls.mono (C1.out _ ?h0) ?_; (case h0 => assumption); rintro e w1 ⟨A1, p1, rfl, q1, r1, b1, k1⟩)
      | (have _n := q3b; refine step_app_bytes rfl _ _ rfl (w.heap.size + 1) v12 (ya ++ yb) yc rfl q12 A3 p3 rfl q3b (by omega) k4.2.2.2.one.lt ?_; rintro v123 w5 q123 g5; have k5 := grS (GrI.grown k4.2.2.2 q12 g5))
      | (have _n := q12; refine step_app_bytes rfl _ _ rfl (w.heap.size + 1) v12 (ya ++ yb) yc rfl q12 A3 p3 rfl q3.bytes (by omega) k3.2.2.2.one.lt ?_; rintro v123 w5 q123 g5; have k5 := grS (GrI.grown k3.2.2.2 q12 g5))
      | (have _n := q3; refine step_app_bytes rfl _ _ rfl (w.heap.size + 1) (.slice A1 ya.length p1) ya yb rfl q1.own A2 p2 rfl q2.bytes (by omega) k3.2.2.2.one.lt ?_; rintro v12 w4 q12 g4; have k4 := grS (GrI.grown k3.2.2.2 q1.own g4); have q3b := bytes_grown q3.bytes r3 (own_before q1 b2.size) g4)
      | (refine step_app_bytes rfl _ _ rfl (w.heap.size + 1) (.slice A1 ya.length p1) ya yb rfl q1.own A2 p2 rfl q2.bytes (by omega) k2.2.2.2.one.lt ?_; rintro v12 w4 q12 g4; have k4 := grS (GrI.grown k2.2.2.2 q1.own g4)))
  all_goals
    go_wp2_with fail
    go_ret
    exact ⟨_, rfl, q123.base (Nat.le_succ _), k5.2.2.2.low⟩
end

/- SnRef3: The document's bytes of a command. -/
section
set_option maxRecDepth 100000
open Go.RowKit Go.ChangeShapes Go.WideShapes Go.ChangeAt
attribute [local go_sem ↓] ldCm stCm alCm bxCm bdCm ldGr bxGr eqGr
attribute [local go_sem] al_cm bx_cm st_cmnew bd_cm bd_cmKind bx_gr ne_gr eq_grX

/-- A command in its variable, the bytes so far. -/
structure CwI (w : World) (r : CmR) (acc : List Nat) (v : Value) (W : World) : Prop where
  on : OnCm w r W
  own : OwnB W (w.heap.size + 1) v acc
  few : w.heap.size + 1 ≤ W.heap.size
theorem CwI.below {w W W' : World} {r : CmR} {acc : List Nat} {v : Value} (h : CwI w r acc v W) (b : Below W.heap.size W W') : CwI w r acc v W' := ⟨h.on.below b, h.own.below b, Nat.le_trans h.few b.size⟩
theorem CwI.laid {w W W' : World} {r : CmR} {acc : List Nat} {v : Value} {o : Obj} (h : CwI w r acc v W) (b : Below (W.alloc o).heap.size (W.alloc o) W') : CwI w r acc v W' := (h.below ((Below.refl _ _).alloc (Nat.le_refl _) o)).below b
theorem CwI.put {w W W' : World} {r : CmR} {acc acc' : List Nat} {v v' : Value} (h : CwI w r acc v W) (was : CmP w r) (own : OwnB W' (w.heap.size + 1) v' acc') (g : W.grownBy W' v.ownBlock) : CwI w r acc' v' W' := by
  have hr := h.own.row
  have hl : Below w.heap.size w W' := h.on.low.grown g h.on.low.size (fun k hk => by have := hr k hk; omega)
  exact ⟨⟨(g.block _ h.on.one.lt (fun e => by have := hr _ e.symm; omega)).trans h.on.one, was.below hl, hl⟩, own, Nat.le_trans h.few g.size⟩
theorem below_lay {a W : World} {o : Obj} (h : Below a.heap.size a W) : Below a.heap.size a (W.alloc o) := h.alloc h.size o
theorem intsP_two (W : World) (x y : Int) (T : TypeId) : IntsP (W.alloc (.cells #[.int .i64 x, .int .i64 y] T)) (some ⟨W.heap.size, 0, none⟩) 2 [x, y] := by
  refine ⟨by simp, fun _ => ⟨W.heap.size, 0, rfl, by simp, fun j z hj => ?_⟩⟩
  match j, hj with
  | 0, hj =>
    injection hj with hj
    subst hj
    exact (Row.new W #[.int .i64 x, .int .i64 y] T).cell 0
  | 1, hj =>
    injection hj with hj
    subst hj
    exact (Row.new W #[.int .i64 x, .int .i64 y] T).cell 1
theorem num_one {x : Int} (h : 0 ≤ x ∧ x < 9223372036854775808) {y : List Nat} (hy : numL x.toNat = y) (W : World) : Calls Tryz.prog 50 #[.slice (some ⟨W.heap.size, 0, none⟩) 1 1] (W.alloc (.cells #[.int .i64 x] 2)) (OwnPost y (W.alloc (.cells #[.int .i64 x] 2))) := by
  have := refNumbers_any (some ⟨W.heap.size, 0, none⟩) 1 [x] _ (ints_one W x 2) (fun z hz => by rw [List.mem_singleton.1 hz]; exact h) (by simp)
  have e : numsL (natsI [x]) = y := by rw [← hy]; simp [natsI, numsL]
  rwa [e] at this
theorem num_two {x x' : Int} (h : 0 ≤ x ∧ x < 9223372036854775808) (h' : 0 ≤ x' ∧ x' < 9223372036854775808) {y : List Nat} (hy : numL x.toNat ++ numL x'.toNat = y) (W : World) : Calls Tryz.prog 50 #[.slice (some ⟨W.heap.size, 0, none⟩) 2 2] (W.alloc (.cells #[.int .i64 x, .int .i64 x'] 2)) (OwnPost y (W.alloc (.cells #[.int .i64 x, .int .i64 x'] 2))) := by
  have := refNumbers_any (some ⟨W.heap.size, 0, none⟩) 2 [x, x'] _ (intsP_two W x x' 2) (fun z hz => by
    simp only [List.mem_cons, List.not_mem_nil, or_false] at hz
    rcases hz with rfl | rfl
    · exact h
    · exact h') (by simp)
  have e : numsL (natsI [x, x']) = y := by rw [← hy]; simp [natsI, numsL]
  rwa [e] at this
set_option maxHeartbeats 8000000 in
theorem refCommand6 (r : CmR) (w : World) (h : CmP w r) (hk : r.m.kind = 6) (_hr : fitsC r.m = true) : Calls Tryz.prog 18 #[cmV r] w (OwnPost (commandL r.m) w) := by
  have HK := Lib.hid hk

  have HW := Lib.hid h
  obtain ⟨y0, hy0⟩ : ∃ y0, numL (6 : Int).toNat = y0 := ⟨_, rfl⟩
  have l0 : y0.length ≤ 10 := by rw [← hy0]; exact numL_ten (by decide)
  have I := Lib.hid (OnCm.begin w r h)
  have C0 := Lib.hid (num_one (x := 6) (by decide) hy0 (w.alloc (.cells (cmC r) 26)))
  rw [show (w.alloc (.cells (cmC r) 26)).heap.size = w.heap.size + 1 by simp] at C0
  have hz : w.heap.size + 1 ≤ ((w.alloc (.cells (cmC r) 26)).alloc (.cells #[.int .i64 6] 2)).heap.size := by simp
  have HF := Lib.hid (show commandL r.m = y0 by rw [← hy0]; simp [commandL, restL, hk])
  clear hk
  clear hy0
  have cells := I.out.one.m
  rw [HK.out] at cells
  obtain ⟨⟨c0, c1, c2, c3, c4⟩, c5, c6, c7, c8⟩ := cells
  have gg := ld_grAt c3 c4 c5
  clear c3 c4 c5 h
  go_enter Tryz.func18, Tryz.ntmps18
  go_wp2_with fail
  generalize w.alloc (.cells (cmC r) 26) = W0 at *
  refine C0.out.mono ?_
  rintro e W1 ⟨v1, rfl, o1, b1⟩
  have P : Hid (CwI w r y0 v1 W1) := Lib.hid ⟨(I.out.below ((Below.refl _ _).alloc (Nat.le_refl _) _)).below b1, o1.base hz, Nat.le_trans hz b1.size⟩
  clear o1 b1 I C0 hz
  clear c0 c1 c2 c6 c7 c8 gg
  have cells := P.out.on.one.m
  rw [HK.out] at cells
  obtain ⟨⟨c0, c1, c2, c3, c4⟩, c5, c6, c7, c8⟩ := cells
  have gg := ld_grAt c3 c4 c5
  clear c3 c4 c5
  go_wp2_with fail

  go_ret
  refine ⟨_, rfl, ?_, P.out.on.low⟩
  rw [HF.out]
  have q := P.out.own.base (Nat.le_succ _)
  try simp only at q ⊢
  exact q



set_option maxHeartbeats 8000000 in
theorem refCommand7 (r : CmR) (w : World) (h : CmP w r) (hk : r.m.kind = 7) (_hr : fitsC r.m = true) : Calls Tryz.prog 18 #[cmV r] w (OwnPost (commandL r.m) w) := by
  have HK := Lib.hid hk

  have HW := Lib.hid h
  obtain ⟨y0, hy0⟩ : ∃ y0, numL (7 : Int).toNat = y0 := ⟨_, rfl⟩
  have l0 : y0.length ≤ 10 := by rw [← hy0]; exact numL_ten (by decide)
  have I := Lib.hid (OnCm.begin w r h)
  have C0 := Lib.hid (num_one (x := 7) (by decide) hy0 (w.alloc (.cells (cmC r) 26)))
  rw [show (w.alloc (.cells (cmC r) 26)).heap.size = w.heap.size + 1 by simp] at C0
  have hz : w.heap.size + 1 ≤ ((w.alloc (.cells (cmC r) 26)).alloc (.cells #[.int .i64 7] 2)).heap.size := by simp
  have HF := Lib.hid (show commandL r.m = y0 by rw [← hy0]; simp [commandL, restL, hk])
  clear hk
  clear hy0
  have cells := I.out.one.m
  rw [HK.out] at cells
  obtain ⟨⟨c0, c1, c2, c3, c4⟩, c5, c6, c7, c8⟩ := cells
  have gg := ld_grAt c3 c4 c5
  clear c3 c4 c5 h
  go_enter Tryz.func18, Tryz.ntmps18
  go_wp2_with fail
  generalize w.alloc (.cells (cmC r) 26) = W0 at *
  refine C0.out.mono ?_
  rintro e W1 ⟨v1, rfl, o1, b1⟩
  have P : Hid (CwI w r y0 v1 W1) := Lib.hid ⟨(I.out.below ((Below.refl _ _).alloc (Nat.le_refl _) _)).below b1, o1.base hz, Nat.le_trans hz b1.size⟩
  clear o1 b1 I C0 hz
  clear c0 c1 c2 c6 c7 c8 gg
  have cells := P.out.on.one.m
  rw [HK.out] at cells
  obtain ⟨⟨c0, c1, c2, c3, c4⟩, c5, c6, c7, c8⟩ := cells
  have gg := ld_grAt c3 c4 c5
  clear c3 c4 c5
  go_wp2_with fail

  go_ret
  refine ⟨_, rfl, ?_, P.out.on.low⟩
  rw [HF.out]
  have q := P.out.own.base (Nat.le_succ _)
  try simp only at q ⊢
  exact q



set_option maxHeartbeats 8000000 in
theorem refCommand2 (r : CmR) (w : World) (h : CmP w r) (hk : r.m.kind = 2) (hr : fitsC r.m = true) : Calls Tryz.prog 18 #[cmV r] w (OwnPost (commandL r.m) w) := by
  have HK := Lib.hid hk

  have HW := Lib.hid h
  obtain ⟨y0, hy0⟩ : ∃ y0, numL (2 : Int).toNat = y0 := ⟨_, rfl⟩
  have l0 : y0.length ≤ 10 := by rw [← hy0]; exact numL_ten (by decide)
  have I := Lib.hid (OnCm.begin w r h)
  have C0 := Lib.hid (num_one (x := 2) (by decide) hy0 (w.alloc (.cells (cmC r) 26)))
  rw [show (w.alloc (.cells (cmC r) 26)).heap.size = w.heap.size + 1 by simp] at C0
  have hz : w.heap.size + 1 ≤ ((w.alloc (.cells (cmC r) 26)).alloc (.cells #[.int .i64 2] 2)).heap.size := by simp
  have hid : rightT r.m.id = true := by simpa [fitsC, hk] using hr
  have C1 := Lib.hid (fun W => refText_any r.m.id W (by have := right_32 hid; omega))
  have Y1 := Lib.hid (textL_bytes r.m.id)
  have l1 := textL_32 (right_32 hid)
  have HF := Lib.hid (show commandL r.m = y0 ++ textL r.m.id by rw [← hy0]; simp [commandL, restL, hk])
  clear hk hr hid
  generalize textL r.m.id = y1 at *
  clear hy0
  have cells := I.out.one.m
  rw [HK.out] at cells
  obtain ⟨⟨c0, c1, c2, c3, c4⟩, c5, c6, c7, c8⟩ := cells
  have gg := ld_grAt c3 c4 c5
  clear c3 c4 c5 h
  go_enter Tryz.func18, Tryz.ntmps18
  go_wp2_with fail
  generalize w.alloc (.cells (cmC r) 26) = W0 at *
  refine C0.out.mono ?_
  rintro e W1 ⟨v1, rfl, o1, b1⟩
  have P : Hid (CwI w r y0 v1 W1) := Lib.hid ⟨(I.out.below ((Below.refl _ _).alloc (Nat.le_refl _) _)).below b1, o1.base hz, Nat.le_trans hz b1.size⟩
  clear o1 b1 I C0 hz
  clear c0 c1 c2 c6 c7 c8 gg
  have cells := P.out.on.one.m
  rw [HK.out] at cells
  obtain ⟨⟨c0, c1, c2, c3, c4⟩, c5, c6, c7, c8⟩ := cells
  have gg := ld_grAt c3 c4 c5
  clear c3 c4 c5
  go_wp2_with fail

  refine (C1.out _).mono ?_
  rintro e x2 ⟨u2, rfl, q2, b2⟩
  obtain ⟨a2, p2, e2, h2⟩ := q2.bytes Y1.out
  subst e2
  have D := Lib.hid (P.out.below b2)
  have H2 := Lib.hid h2
  clear q2 b2 h2 P
  clear c0 c1 c2 c6 c7 c8 gg
  go_wp2_with (at_builtin; go_must (refine wpList_append_bytes rfl _ _ rfl (w.heap.size + 1) _ (y0) y1 rfl D.out.own a2 p2 rfl H2.out (by omega) D.out.few ?_))
  rintro v2 w2 o2 g2
  have P := Lib.hid (D.out.put HW.out o2 g2)
  clear o2 g2 D H2
  have cells := P.out.on.one.m
  rw [HK.out] at cells
  obtain ⟨⟨c0, c1, c2, c3, c4⟩, c5, c6, c7, c8⟩ := cells
  have gg := ld_grAt c3 c4 c5
  clear c3 c4 c5
  go_wp2_with fail
  go_ret
  refine ⟨_, rfl, ?_, P.out.on.low⟩
  rw [HF.out]
  have q := P.out.own.base (Nat.le_succ _)
  try simp only at q ⊢
  exact q



set_option maxHeartbeats 8000000 in
theorem refCommand8 (r : CmR) (w : World) (h : CmP w r) (hk : r.m.kind = 8) (hr : fitsC r.m = true) : Calls Tryz.prog 18 #[cmV r] w (OwnPost (commandL r.m) w) := by
  have HK := Lib.hid hk

  have HW := Lib.hid h
  obtain ⟨y0, hy0⟩ : ∃ y0, numL (8 : Int).toNat = y0 := ⟨_, rfl⟩
  have l0 : y0.length ≤ 10 := by rw [← hy0]; exact numL_ten (by decide)
  have I := Lib.hid (OnCm.begin w r h)
  have C0 := Lib.hid (num_one (x := 8) (by decide) hy0 (w.alloc (.cells (cmC r) 26)))
  rw [show (w.alloc (.cells (cmC r) 26)).heap.size = w.heap.size + 1 by simp] at C0
  have hz : w.heap.size + 1 ≤ ((w.alloc (.cells (cmC r) 26)).alloc (.cells #[.int .i64 8] 2)).heap.size := by simp
  have hid : rightT r.m.id = true := by simpa [fitsC, hk] using hr
  have C1 := Lib.hid (fun W => refText_any r.m.id W (by have := right_32 hid; omega))
  have Y1 := Lib.hid (textL_bytes r.m.id)
  have l1 := textL_32 (right_32 hid)
  have HF := Lib.hid (show commandL r.m = y0 ++ textL r.m.id by rw [← hy0]; simp [commandL, restL, hk])
  clear hk hr hid
  generalize textL r.m.id = y1 at *
  clear hy0
  have cells := I.out.one.m
  rw [HK.out] at cells
  obtain ⟨⟨c0, c1, c2, c3, c4⟩, c5, c6, c7, c8⟩ := cells
  have gg := ld_grAt c3 c4 c5
  clear c3 c4 c5 h
  go_enter Tryz.func18, Tryz.ntmps18
  go_wp2_with fail
  generalize w.alloc (.cells (cmC r) 26) = W0 at *
  refine C0.out.mono ?_
  rintro e W1 ⟨v1, rfl, o1, b1⟩
  have P : Hid (CwI w r y0 v1 W1) := Lib.hid ⟨(I.out.below ((Below.refl _ _).alloc (Nat.le_refl _) _)).below b1, o1.base hz, Nat.le_trans hz b1.size⟩
  clear o1 b1 I C0 hz
  clear c0 c1 c2 c6 c7 c8 gg
  have cells := P.out.on.one.m
  rw [HK.out] at cells
  obtain ⟨⟨c0, c1, c2, c3, c4⟩, c5, c6, c7, c8⟩ := cells
  have gg := ld_grAt c3 c4 c5
  clear c3 c4 c5
  go_wp2_with fail

  refine (C1.out _).mono ?_
  rintro e x2 ⟨u2, rfl, q2, b2⟩
  obtain ⟨a2, p2, e2, h2⟩ := q2.bytes Y1.out
  subst e2
  have D := Lib.hid (P.out.below b2)
  have H2 := Lib.hid h2
  clear q2 b2 h2 P
  clear c0 c1 c2 c6 c7 c8 gg
  go_wp2_with (at_builtin; go_must (refine wpList_append_bytes rfl _ _ rfl (w.heap.size + 1) _ (y0) y1 rfl D.out.own a2 p2 rfl H2.out (by omega) D.out.few ?_))
  rintro v2 w2 o2 g2
  have P := Lib.hid (D.out.put HW.out o2 g2)
  clear o2 g2 D H2
  have cells := P.out.on.one.m
  rw [HK.out] at cells
  obtain ⟨⟨c0, c1, c2, c3, c4⟩, c5, c6, c7, c8⟩ := cells
  have gg := ld_grAt c3 c4 c5
  clear c3 c4 c5
  go_wp2_with fail
  go_ret
  refine ⟨_, rfl, ?_, P.out.on.low⟩
  rw [HF.out]
  have q := P.out.own.base (Nat.le_succ _)
  try simp only at q ⊢
  exact q



set_option maxHeartbeats 8000000 in
theorem refCommand4 (r : CmR) (w : World) (h : CmP w r) (hk : r.m.kind = 4) (hr : fitsC r.m = true) : Calls Tryz.prog 18 #[cmV r] w (OwnPost (commandL r.m) w) := by
  have HK := Lib.hid hk

  have HW := Lib.hid h
  obtain ⟨y0, hy0⟩ : ∃ y0, numL (4 : Int).toNat = y0 := ⟨_, rfl⟩
  have l0 : y0.length ≤ 10 := by rw [← hy0]; exact numL_ten (by decide)
  have I := Lib.hid (OnCm.begin w r h)
  have C0 := Lib.hid (num_one (x := 4) (by decide) hy0 (w.alloc (.cells (cmC r) 26)))
  rw [show (w.alloc (.cells (cmC r) 26)).heap.size = w.heap.size + 1 by simp] at C0
  have hz : w.heap.size + 1 ≤ ((w.alloc (.cells (cmC r) 26)).alloc (.cells #[.int .i64 4] 2)).heap.size := by simp
  have hn : 1 ≤ r.m.number ∧ r.m.number ≤ 96 := by simpa [fitsC, hk] using hr
  obtain ⟨n, hnn⟩ : ∃ n : Nat, r.m.number = (n : Int) := ⟨r.m.number.toNat, by omega⟩
  have C1 := Lib.hid (fun W => num_one (x := r.m.number) (by omega) (rfl) W)
  have Y1 := Lib.hid (numL_bytes r.m.number.toNat)
  have l1 := numL_ten (show r.m.number.toNat < 18446744073709551616 by omega)
  have HF := Lib.hid (show commandL r.m = y0 ++ numL r.m.number.toNat by rw [← hy0]; simp [commandL, restL, hk])
  clear hk hr hn hnn
  generalize numL r.m.number.toNat = y1 at *
  clear hy0
  have cells := I.out.one.m
  rw [HK.out] at cells
  obtain ⟨⟨c0, c1, c2, c3, c4⟩, c5, c6, c7, c8⟩ := cells
  have gg := ld_grAt c3 c4 c5
  clear c3 c4 c5 h
  go_enter Tryz.func18, Tryz.ntmps18
  go_wp2_with fail
  generalize w.alloc (.cells (cmC r) 26) = W0 at *
  refine C0.out.mono ?_
  rintro e W1 ⟨v1, rfl, o1, b1⟩
  have P : Hid (CwI w r y0 v1 W1) := Lib.hid ⟨(I.out.below ((Below.refl _ _).alloc (Nat.le_refl _) _)).below b1, o1.base hz, Nat.le_trans hz b1.size⟩
  clear o1 b1 I C0 hz
  clear c0 c1 c2 c6 c7 c8 gg
  have cells := P.out.on.one.m
  rw [HK.out] at cells
  obtain ⟨⟨c0, c1, c2, c3, c4⟩, c5, c6, c7, c8⟩ := cells
  have gg := ld_grAt c3 c4 c5
  clear c3 c4 c5
  go_wp2_with fail

  refine (C1.out _).mono ?_
  rintro e x2 ⟨u2, rfl, q2, b2⟩
  obtain ⟨a2, p2, e2, h2⟩ := q2.bytes Y1.out
  subst e2
  have D := Lib.hid (P.out.laid b2)
  have H2 := Lib.hid h2
  clear q2 b2 h2 P
  clear c0 c1 c2 c6 c7 c8 gg
  go_wp2_with (at_builtin; go_must (refine wpList_append_bytes rfl _ _ rfl (w.heap.size + 1) _ (y0) y1 rfl D.out.own a2 p2 rfl H2.out (by omega) D.out.few ?_))
  rintro v2 w2 o2 g2
  have P := Lib.hid (D.out.put HW.out o2 g2)
  clear o2 g2 D H2
  have cells := P.out.on.one.m
  rw [HK.out] at cells
  obtain ⟨⟨c0, c1, c2, c3, c4⟩, c5, c6, c7, c8⟩ := cells
  have gg := ld_grAt c3 c4 c5
  clear c3 c4 c5
  go_wp2_with fail
  go_ret
  refine ⟨_, rfl, ?_, P.out.on.low⟩
  rw [HF.out]
  have q := P.out.own.base (Nat.le_succ _)
  try simp only at q ⊢
  exact q



set_option maxHeartbeats 8000000 in
theorem refCommand3 (r : CmR) (w : World) (h : CmP w r) (hk : r.m.kind = 3) (hr : fitsC r.m = true) : Calls Tryz.prog 18 #[cmV r] w (OwnPost (commandL r.m) w) := by
  have HK := Lib.hid hk

  have HW := Lib.hid h
  obtain ⟨y0, hy0⟩ : ∃ y0, numL (3 : Int).toNat = y0 := ⟨_, rfl⟩
  have l0 : y0.length ≤ 10 := by rw [← hy0]; exact numL_ten (by decide)
  have I := Lib.hid (OnCm.begin w r h)
  have C0 := Lib.hid (num_one (x := 3) (by decide) hy0 (w.alloc (.cells (cmC r) 26)))
  rw [show (w.alloc (.cells (cmC r) 26)).heap.size = w.heap.size + 1 by simp] at C0
  have hz : w.heap.size + 1 ≤ ((w.alloc (.cells (cmC r) 26)).alloc (.cells #[.int .i64 3] 2)).heap.size := by simp
  have hn : rightT r.m.id = true ∧ groupB r.m.car r.m.zone r.m.serv = true := by simpa [fitsC, hk] using hr
  obtain ⟨hid, hg⟩ := hn
  obtain ⟨g1, g2, g3⟩ := groupB_of hg
  have C1 := Lib.hid (fun W => refText_any r.m.id W (by have := right_32 hid; omega))
  have Y1 := Lib.hid (textL_bytes r.m.id)
  have l1 := textL_32 (right_32 hid)
  obtain ⟨y2, hy2⟩ : ∃ y2, (textL r.m.car ++ textL r.m.zone) ++ textL r.m.serv = y2 := ⟨_, rfl⟩
  have C2 := Lib.hid (fun W => refGroupL_any r.m.car r.m.zone r.m.serv W (right_32 g1) (right_32 g2) (right_32 g3))
  have l2 : y2.length ≤ 126 := by
    have k1 := textL_32 (right_32 g1)
    have k2 := textL_32 (right_32 g2)
    have k3 := textL_32 (right_32 g3)
    rw [← hy2, List.length_append, List.length_append]
    omega
  have Y2 : Hid (Bytes y2) := Lib.hid (by rw [← hy2]; exact bytes_app (bytes_app (textL_bytes _) (textL_bytes _)) (textL_bytes _))
  rw [hy2] at C2
  have HF := Lib.hid (show commandL r.m = (y0 ++ textL r.m.id) ++ y2 by rw [← hy2, ← hy0]; simp [commandL, restL, hk])
  clear hk hr hid hg g1 g2 g3 hy2
  generalize textL r.m.id = y1 at *
  clear hy0
  have cells := I.out.one.m
  rw [HK.out] at cells
  obtain ⟨⟨c0, c1, c2, c3, c4⟩, c5, c6, c7, c8⟩ := cells
  have gg := ld_grAt c3 c4 c5
  clear c3 c4 c5 h
  go_enter Tryz.func18, Tryz.ntmps18
  go_wp2_with fail
  generalize w.alloc (.cells (cmC r) 26) = W0 at *
  refine C0.out.mono ?_
  rintro e W1 ⟨v1, rfl, o1, b1⟩
  have P : Hid (CwI w r y0 v1 W1) := Lib.hid ⟨(I.out.below ((Below.refl _ _).alloc (Nat.le_refl _) _)).below b1, o1.base hz, Nat.le_trans hz b1.size⟩
  clear o1 b1 I C0 hz
  clear c0 c1 c2 c6 c7 c8 gg
  have cells := P.out.on.one.m
  rw [HK.out] at cells
  obtain ⟨⟨c0, c1, c2, c3, c4⟩, c5, c6, c7, c8⟩ := cells
  have gg := ld_grAt c3 c4 c5
  clear c3 c4 c5
  go_wp2_with fail

  refine (C1.out _).mono ?_
  rintro e x2 ⟨u2, rfl, q2, b2⟩
  obtain ⟨a2, p2, e2, h2⟩ := q2.bytes Y1.out
  subst e2
  have D := Lib.hid (P.out.below b2)
  have H2 := Lib.hid h2
  clear q2 b2 h2 P
  clear c0 c1 c2 c6 c7 c8 gg
  go_wp2_with (at_builtin; go_must (refine wpList_append_bytes rfl _ _ rfl (w.heap.size + 1) _ (y0) y1 rfl D.out.own a2 p2 rfl H2.out (by omega) D.out.few ?_))
  rintro v2 w2 o2 g2
  have P := Lib.hid (D.out.put HW.out o2 g2)
  clear o2 g2 D H2
  have cells := P.out.on.one.m
  rw [HK.out] at cells
  obtain ⟨⟨c0, c1, c2, c3, c4⟩, c5, c6, c7, c8⟩ := cells
  have gg := ld_grAt c3 c4 c5
  clear c3 c4 c5
  go_wp2_with fail
  refine (C2.out _).mono ?_
  rintro e x2 ⟨u2, rfl, q2, b2⟩
  obtain ⟨a2, p2, e2, h2⟩ := q2.bytes Y2.out
  subst e2
  have D := Lib.hid (P.out.below b2)
  have H2 := Lib.hid h2
  clear q2 b2 h2 P
  clear c0 c1 c2 c6 c7 c8 gg
  go_wp2_with (at_builtin; go_must (refine wpList_append_bytes rfl _ _ rfl (w.heap.size + 1) _ (y0 ++ y1) y2 rfl D.out.own a2 p2 rfl H2.out (by rw [List.length_append]; omega) D.out.few ?_))
  rintro v2 w2 o2 g2
  have P := Lib.hid (D.out.put HW.out o2 g2)
  clear o2 g2 D H2
  have cells := P.out.on.one.m
  rw [HK.out] at cells
  obtain ⟨⟨c0, c1, c2, c3, c4⟩, c5, c6, c7, c8⟩ := cells
  have gg := ld_grAt c3 c4 c5
  clear c3 c4 c5
  go_wp2_with fail
  go_ret
  refine ⟨_, rfl, ?_, P.out.on.low⟩
  rw [HF.out]
  have q := P.out.own.base (Nat.le_succ _)
  try simp only [List.append_assoc] at q ⊢
  exact q



theorem bytes_one (W : World) (x : Nat) (h : x < 256) : BytesP (W.alloc (.cells #[.int .u8 (x : Int)] 5)) (some ⟨W.heap.size, 0, none⟩) 1 [x] := by
  refine ⟨by simp, by simp, fun y hy => by rw [List.mem_singleton.1 hy]; exact h, fun _ => ⟨W.heap.size, 0, rfl, by simp, fun j y hj => ?_⟩⟩
  match j, hj with
  | 0, hj =>
    injection hj with hj
    subst hj
    exact (Row.new W #[.int .u8 (x : Int)] 5).cell 0


set_option maxHeartbeats 8000000 in
theorem refCommand5t (r : CmR) (w : World) (h : CmP w r) (hk : r.m.kind = 5) (hr : fitsC r.m = true) (hyes : r.m.yes = true) : Calls Tryz.prog 18 #[cmV r] w (OwnPost (commandL r.m) w) := by
  have HK := Lib.hid hk

  have HW := Lib.hid h
  obtain ⟨y0, hy0⟩ : ∃ y0, numL (5 : Int).toNat = y0 := ⟨_, rfl⟩
  have l0 : y0.length ≤ 10 := by rw [← hy0]; exact numL_ten (by decide)
  have I := Lib.hid (OnCm.begin w r h)
  have C0 := Lib.hid (num_one (x := 5) (by decide) hy0 (w.alloc (.cells (cmC r) 26)))
  rw [show (w.alloc (.cells (cmC r) 26)).heap.size = w.heap.size + 1 by simp] at C0
  have hz : w.heap.size + 1 ≤ ((w.alloc (.cells (cmC r) 26)).alloc (.cells #[.int .i64 5] 2)).heap.size := by simp
  have hn : 1 ≤ r.m.number ∧ r.m.number ≤ 1000000000000 := by simpa [fitsC, hk, aboveB] using hr
  have C1 := Lib.hid (fun W => num_one (x := r.m.number) (by omega) (rfl) W)
  have Y1 := Lib.hid (numL_bytes r.m.number.toNat)
  have l1 := numL_ten (show r.m.number.toNat < 18446744073709551616 by omega)
  have HF := Lib.hid (show commandL r.m = (y0 ++ numL r.m.number.toNat) ++ [1] by rw [← hy0]; simp [commandL, restL, hk, hyes, givenN, numL_byte])
  have HY := Lib.hid hyes
  clear hk hr hn hyes
  generalize numL r.m.number.toNat = y1 at *
  clear hy0
  have cells := I.out.one.m
  rw [HK.out, HY.out] at cells
  obtain ⟨⟨c0, c1, c2, c3, c4⟩, c5, c6, c7, c8⟩ := cells
  have gg := ld_grAt c3 c4 c5
  clear c3 c4 c5 h
  go_enter Tryz.func18, Tryz.ntmps18
  go_wp2_with fail
  generalize w.alloc (.cells (cmC r) 26) = W0 at *
  refine C0.out.mono ?_
  rintro e W1 ⟨v1, rfl, o1, b1⟩
  have P : Hid (CwI w r y0 v1 W1) := Lib.hid ⟨(I.out.below ((Below.refl _ _).alloc (Nat.le_refl _) _)).below b1, o1.base hz, Nat.le_trans hz b1.size⟩
  clear o1 b1 I C0 hz
  clear c0 c1 c2 c6 c7 c8 gg
  have cells := P.out.on.one.m
  rw [HK.out, HY.out] at cells
  obtain ⟨⟨c0, c1, c2, c3, c4⟩, c5, c6, c7, c8⟩ := cells
  have gg := ld_grAt c3 c4 c5
  clear c3 c4 c5
  go_wp2_with fail

  refine (C1.out _).mono ?_
  rintro e x2 ⟨u2, rfl, q2, b2⟩
  obtain ⟨a2, p2, e2, h2⟩ := q2.bytes Y1.out
  subst e2
  have D := Lib.hid (P.out.laid b2)
  have H2 := Lib.hid h2
  clear q2 b2 h2 P
  clear c0 c1 c2 c6 c7 c8 gg
  go_wp2_with (at_builtin; go_must (refine wpList_append_bytes rfl _ _ rfl (w.heap.size + 1) _ (y0) y1 rfl D.out.own a2 p2 rfl H2.out (by omega) D.out.few ?_))
  rintro v2 w2 o2 g2
  have P := Lib.hid (D.out.put HW.out o2 g2)
  clear o2 g2 D H2
  have cells := P.out.on.one.m
  rw [HK.out, HY.out] at cells
  obtain ⟨⟨c0, c1, c2, c3, c4⟩, c5, c6, c7, c8⟩ := cells
  have gg := ld_grAt c3 c4 c5
  clear c3 c4 c5

  go_wp2_with (at_builtin; go_must (refine wpList_append_bytes rfl _ _ rfl (w.heap.size + 1) _ (y0 ++ y1) [1] rfl (P.out.below (below_lay (Below.refl _ _))).own _ 1 rfl (bytes_one _ 1 (by decide)) (by rw [List.length_append]; simp; omega) (P.out.below (below_lay (Below.refl _ _))).few ?_))
  rintro v2 w2 o2 g2
  have P := Lib.hid ((P.out.below (below_lay (Below.refl _ _))).put HW.out o2 g2)
  clear o2 g2
  clear c0 c1 c2 c6 c7 c8 gg
  have cells := P.out.on.one.m
  rw [HK.out, HY.out] at cells
  obtain ⟨⟨c0, c1, c2, c3, c4⟩, c5, c6, c7, c8⟩ := cells
  have gg := ld_grAt c3 c4 c5
  clear c3 c4 c5
  go_wp2_with fail
  go_ret
  refine ⟨_, rfl, ?_, P.out.on.low⟩
  rw [HF.out]
  have q := P.out.own.base (Nat.le_succ _)
  try simp only [List.append_assoc] at q ⊢
  exact q



set_option maxHeartbeats 8000000 in
theorem refCommand5f (r : CmR) (w : World) (h : CmP w r) (hk : r.m.kind = 5) (hr : fitsC r.m = true) (hyes : r.m.yes = false) : Calls Tryz.prog 18 #[cmV r] w (OwnPost (commandL r.m) w) := by
  have HK := Lib.hid hk

  have HW := Lib.hid h
  obtain ⟨y0, hy0⟩ : ∃ y0, numL (5 : Int).toNat = y0 := ⟨_, rfl⟩
  have l0 : y0.length ≤ 10 := by rw [← hy0]; exact numL_ten (by decide)
  have I := Lib.hid (OnCm.begin w r h)
  have C0 := Lib.hid (num_one (x := 5) (by decide) hy0 (w.alloc (.cells (cmC r) 26)))
  rw [show (w.alloc (.cells (cmC r) 26)).heap.size = w.heap.size + 1 by simp] at C0
  have hz : w.heap.size + 1 ≤ ((w.alloc (.cells (cmC r) 26)).alloc (.cells #[.int .i64 5] 2)).heap.size := by simp
  have hn : 1 ≤ r.m.number ∧ r.m.number ≤ 1000000000000 := by simpa [fitsC, hk, aboveB] using hr
  have C1 := Lib.hid (fun W => num_one (x := r.m.number) (by omega) (rfl) W)
  have Y1 := Lib.hid (numL_bytes r.m.number.toNat)
  have l1 := numL_ten (show r.m.number.toNat < 18446744073709551616 by omega)
  have HF := Lib.hid (show commandL r.m = (y0 ++ numL r.m.number.toNat) ++ [0] by rw [← hy0]; simp [commandL, restL, hk, hyes, givenN, numL_byte])
  have HY := Lib.hid hyes
  clear hk hr hn hyes
  generalize numL r.m.number.toNat = y1 at *
  clear hy0
  have cells := I.out.one.m
  rw [HK.out, HY.out] at cells
  obtain ⟨⟨c0, c1, c2, c3, c4⟩, c5, c6, c7, c8⟩ := cells
  have gg := ld_grAt c3 c4 c5
  clear c3 c4 c5 h
  go_enter Tryz.func18, Tryz.ntmps18
  go_wp2_with fail
  generalize w.alloc (.cells (cmC r) 26) = W0 at *
  refine C0.out.mono ?_
  rintro e W1 ⟨v1, rfl, o1, b1⟩
  have P : Hid (CwI w r y0 v1 W1) := Lib.hid ⟨(I.out.below ((Below.refl _ _).alloc (Nat.le_refl _) _)).below b1, o1.base hz, Nat.le_trans hz b1.size⟩
  clear o1 b1 I C0 hz
  clear c0 c1 c2 c6 c7 c8 gg
  have cells := P.out.on.one.m
  rw [HK.out, HY.out] at cells
  obtain ⟨⟨c0, c1, c2, c3, c4⟩, c5, c6, c7, c8⟩ := cells
  have gg := ld_grAt c3 c4 c5
  clear c3 c4 c5
  go_wp2_with fail

  refine (C1.out _).mono ?_
  rintro e x2 ⟨u2, rfl, q2, b2⟩
  obtain ⟨a2, p2, e2, h2⟩ := q2.bytes Y1.out
  subst e2
  have D := Lib.hid (P.out.laid b2)
  have H2 := Lib.hid h2
  clear q2 b2 h2 P
  clear c0 c1 c2 c6 c7 c8 gg
  go_wp2_with (at_builtin; go_must (refine wpList_append_bytes rfl _ _ rfl (w.heap.size + 1) _ (y0) y1 rfl D.out.own a2 p2 rfl H2.out (by omega) D.out.few ?_))
  rintro v2 w2 o2 g2
  have P := Lib.hid (D.out.put HW.out o2 g2)
  clear o2 g2 D H2
  have cells := P.out.on.one.m
  rw [HK.out, HY.out] at cells
  obtain ⟨⟨c0, c1, c2, c3, c4⟩, c5, c6, c7, c8⟩ := cells
  have gg := ld_grAt c3 c4 c5
  clear c3 c4 c5

  go_wp2_with (at_builtin; go_must (refine wpList_append_bytes rfl _ _ rfl (w.heap.size + 1) _ (y0 ++ y1) [0] rfl (P.out.below (below_lay (Below.refl _ _))).own _ 1 rfl (bytes_one _ 0 (by decide)) (by rw [List.length_append]; simp; omega) (P.out.below (below_lay (Below.refl _ _))).few ?_))
  rintro v2 w2 o2 g2
  have P := Lib.hid ((P.out.below (below_lay (Below.refl _ _))).put HW.out o2 g2)
  clear o2 g2
  clear c0 c1 c2 c6 c7 c8 gg
  have cells := P.out.on.one.m
  rw [HK.out, HY.out] at cells
  obtain ⟨⟨c0, c1, c2, c3, c4⟩, c5, c6, c7, c8⟩ := cells
  have gg := ld_grAt c3 c4 c5
  clear c3 c4 c5
  go_wp2_with fail
  go_ret
  refine ⟨_, rfl, ?_, P.out.on.low⟩
  rw [HF.out]
  have q := P.out.own.base (Nat.le_succ _)
  try simp only [List.append_assoc] at q ⊢
  exact q



set_option maxHeartbeats 8000000 in
theorem refCommand1 (r : CmR) (w : World) (h : CmP w r) (hk : r.m.kind = 1) (hr : fitsC r.m = true) : Calls Tryz.prog 18 #[cmV r] w (OwnPost (commandL r.m) w) := by
  have HK := Lib.hid hk

  have HW := Lib.hid h
  obtain ⟨y0, hy0⟩ : ∃ y0, numL (1 : Int).toNat = y0 := ⟨_, rfl⟩
  have l0 : y0.length ≤ 10 := by rw [← hy0]; exact numL_ten (by decide)
  have I := Lib.hid (OnCm.begin w r h)
  have C0 := Lib.hid (num_one (x := 1) (by decide) hy0 (w.alloc (.cells (cmC r) 26)))
  rw [show (w.alloc (.cells (cmC r) 26)).heap.size = w.heap.size + 1 by simp] at C0
  have hz : w.heap.size + 1 ≤ ((w.alloc (.cells (cmC r) 26)).alloc (.cells #[.int .i64 1] 2)).heap.size := by simp
  have hn : rightT r.m.id = true ∧ rightLB r.m.ls = true ∧ groupB r.m.car r.m.zone r.m.serv = true ∧ 0 ≤ r.m.total ∧ r.m.total ≤ 1000000000000 := by simpa [fitsC, hk, tallyB] using hr
  obtain ⟨hid, hls, hg, ht⟩ := hn
  obtain ⟨g1, g2, g3⟩ := groupB_of hg
  obtain ⟨⟨k7, k8⟩, k9, _⟩ := (rightLB_iff _).1 hls
  have HLB := Lib.hid k9
  have C1 := Lib.hid (fun W => refText_any r.m.id W (by have := right_32 hid; omega))
  have Y1 := Lib.hid (textL_bytes r.m.id)
  have l1 := textL_32 (right_32 hid)
  obtain ⟨yn, hyn⟩ : ∃ yn, numL ((r.m.ls.length : Nat) : Int).toNat = yn := ⟨_, rfl⟩
  have CN := Lib.hid (fun W => num_one (x := ((r.m.ls.length : Nat) : Int)) (by omega) hyn W)
  have YN : Hid (Bytes yn) := Lib.hid (by rw [← hyn]; exact numL_bytes _)
  have ln : yn.length ≤ 10 := by rw [← hyn]; exact numL_ten (by omega)
  obtain ⟨y2, hy2⟩ : ∃ y2, (textL r.m.car ++ textL r.m.zone) ++ textL r.m.serv = y2 := ⟨_, rfl⟩
  have C2 := Lib.hid (fun W => refGroupL_any r.m.car r.m.zone r.m.serv W (right_32 g1) (right_32 g2) (right_32 g3))
  have l2 : y2.length ≤ 126 := by
    have k1 := textL_32 (right_32 g1)
    have k2 := textL_32 (right_32 g2)
    have k3 := textL_32 (right_32 g3)
    rw [← hy2, List.length_append, List.length_append]
    omega
  have Y2 : Hid (Bytes y2) := Lib.hid (by rw [← hy2]; exact bytes_app (bytes_app (textL_bytes _) (textL_bytes _)) (textL_bytes _))
  rw [hy2] at C2
  have C3 := Lib.hid (fun W => num_one (x := r.m.total) (by omega) (rfl) W)
  have Y3 := Lib.hid (numL_bytes r.m.total.toNat)
  have l3 := numL_ten (show r.m.total.toNat < 18446744073709551616 by omega)
  have HF := Lib.hid (show commandL r.m = (((y0 ++ textL r.m.id) ++ yn) ++ linesL r.m.ls) ++ (y2 ++ numL r.m.total.toNat) by rw [← hy2, ← hy0, ← hyn]; simp [commandL, restL, hk])
  have hlen : r.m.ls.length ≤ 8 := k8
  clear hk hr hid hls hg ht g1 g2 g3 k7 k8 k9 hy2 hyn
  generalize textL r.m.id = y1 at *
  generalize numL r.m.total.toNat = y3 at *
  clear hy0
  have cells := I.out.one.m
  rw [HK.out] at cells
  obtain ⟨⟨c0, c1, c2, c3, c4⟩, c5, c6, c7, c8⟩ := cells
  have gg := ld_grAt c3 c4 c5
  clear c3 c4 c5 h
  go_enter Tryz.func18, Tryz.ntmps18
  go_wp2_with fail
  generalize w.alloc (.cells (cmC r) 26) = W0 at *
  refine C0.out.mono ?_
  rintro e W1 ⟨v1, rfl, o1, b1⟩
  have P : Hid (CwI w r y0 v1 W1) := Lib.hid ⟨(I.out.below ((Below.refl _ _).alloc (Nat.le_refl _) _)).below b1, o1.base hz, Nat.le_trans hz b1.size⟩
  clear o1 b1 I C0 hz
  clear c0 c1 c2 c6 c7 c8 gg
  have cells := P.out.on.one.m
  rw [HK.out] at cells
  obtain ⟨⟨c0, c1, c2, c3, c4⟩, c5, c6, c7, c8⟩ := cells
  have gg := ld_grAt c3 c4 c5
  clear c3 c4 c5
  go_wp2_with fail

  refine (C1.out _).mono ?_
  rintro e x2 ⟨u2, rfl, q2, b2⟩
  obtain ⟨a2, p2, e2, h2⟩ := q2.bytes Y1.out
  subst e2
  have D := Lib.hid (P.out.below b2)
  have H2 := Lib.hid h2
  clear q2 b2 h2 P
  clear c0 c1 c2 c6 c7 c8 gg
  go_wp2_with (at_builtin; go_must (refine wpList_append_bytes rfl _ _ rfl (w.heap.size + 1) _ (y0) y1 rfl D.out.own a2 p2 rfl H2.out (by omega) D.out.few ?_))
  rintro v2 w2 o2 g2
  have P := Lib.hid (D.out.put HW.out o2 g2)
  clear o2 g2 D H2
  have cells := P.out.on.one.m
  rw [HK.out] at cells
  obtain ⟨⟨c0, c1, c2, c3, c4⟩, c5, c6, c7, c8⟩ := cells
  have gg := ld_grAt c3 c4 c5
  clear c3 c4 c5
  go_wp2_with fail
  refine (CN.out _).mono ?_
  rintro e x2 ⟨u2, rfl, q2, b2⟩
  obtain ⟨a2, p2, e2, h2⟩ := q2.bytes YN.out
  subst e2
  have D := Lib.hid (P.out.laid b2)
  have H2 := Lib.hid h2
  clear q2 b2 h2 P
  clear c0 c1 c2 c6 c7 c8 gg
  go_wp2_with (at_builtin; go_must (refine wpList_append_bytes rfl _ _ rfl (w.heap.size + 1) _ (y0 ++ y1) yn rfl D.out.own a2 p2 rfl H2.out (by rw [List.length_append]; omega) D.out.few ?_))
  rintro v2 w2 o2 g2
  have P := Lib.hid (D.out.put HW.out o2 g2)
  clear o2 g2 D H2
  have cells := P.out.on.one.m
  rw [HK.out] at cells
  obtain ⟨⟨c0, c1, c2, c3, c4⟩, c5, c6, c7, c8⟩ := cells
  have gg := ld_grAt c3 c4 c5
  clear c3 c4 c5
  go_wp2_with fail
  have hA : (((y0 ++ y1) ++ yn)).length ≤ 70 := by rw [List.length_append, List.length_append]; omega
  have HA := Lib.hid (rfl : ((y0 ++ y1) ++ yn) = ((y0 ++ y1) ++ yn))
  obtain ⟨A0, hA0⟩ : ∃ A0, (y0 ++ y1) ++ yn = A0 := ⟨_, rfl⟩
  have P0 : Hid (CwI w r A0 v2 w2) := Lib.hid (by rw [← hA0, List.append_assoc]; exact P.out)
  rw [hA0] at hA HF
  clear HA P hA0 c0 c1 c2 c6 c7 c8 gg
  go_loopw [3, 36] (fun v i wr => ∃ (k : Nat) (acc : List Nat), k ≤ r.m.ls.length ∧ i = .int .i64 k ∧ Hid (CwI w r acc v wr) ∧ Hid (acc ++ linesL (r.m.ls.drop k) = A0 ++ linesL r.m.ls) ∧ acc.length ≤ 70 + 100 * k) (fun _ i _ => r.m.ls.length - (intOf i).toNat)
  case atStart => exact ⟨0, A0, Nat.zero_le _, rfl, P0, Lib.hid rfl, by omega⟩
  case round =>
    clear P0
    obtain ⟨k, acc, hk, rfl, PR, HS, hac⟩ := hrel
    by_cases hlt : k < r.m.ls.length
    · have hlns := PR.out.on.cm.lns
      obtain ⟨b, of, eo, hb, r1, r2, r3, _⟩ := hlns.at k hlt
      have hcap := hlns.cap
      have hlb := HLB.out _ (List.getElem_mem hlt)
      obtain ⟨z0, z1, z2, z3, z4⟩ := lineB_of hlb
      have HD := Lib.hid (show linesL (r.m.ls.drop k) = lineL r.m.ls[k] ++ linesL (r.m.ls.drop (k + 1)) by rw [List.drop_eq_getElem_cons hlt, linesL_cons])
      have c0 := PR.out.on.one.m.1.1
      rw [HK.out] at c0
      generalize r.m.ls[k] = x at *
      have zs := right_32 (s := x.sku) z0
      have C5 := Lib.hid (fun W => refText_any x.sku W (by omega))
      have Y5 := Lib.hid (textL_bytes x.sku)
      have l5 := textL_32 zs
      obtain ⟨y6, hy6⟩ : ∃ y6, numL x.qty.toNat ++ numL x.wt.toNat = y6 := ⟨_, rfl⟩
      have C6 := Lib.hid (fun W => num_two (x := x.qty) (x' := x.wt) (by omega) (by omega) hy6 W)
      have Y6 : Hid (Bytes y6) := Lib.hid (by rw [← hy6]; exact bytes_app (numL_bytes _) (numL_bytes _))
      have l6 : y6.length ≤ 20 := by
        have q1 := numL_ten (show x.qty.toNat < 18446744073709551616 by omega)
        have q2 := numL_ten (show x.wt.toNat < 18446744073709551616 by omega)
        rw [← hy6, List.length_append]
        omega
      have HN := Lib.hid (show (acc ++ (textL x.sku ++ y6)) ++ linesL (r.m.ls.drop (k + 1)) = A0 ++ linesL r.m.ls by
        rw [← HS.out, HD.out, ← hy6]
        simp [lineL])
      have A5 := Lib.hid (PR.out.below ((Below.refl _ wr).alloc (Nat.le_refl _) (Obj.cells #[Value.string x.sku, Value.int IntKind.i64 x.qty, Value.int IntKind.i64 x.wt] 72)))
      have RX : Hid (Row (wr.alloc (Obj.cells #[Value.string x.sku, Value.int IntKind.i64 x.qty, Value.int IntKind.i64 x.wt] 72)) wr.heap.size 72 #[.string x.sku, .int .i64 x.qty, .int .i64 x.wt]) := Lib.hid (heap_alloc_new _ _)
      rw [eo]
      clear hlb z0 z1 z2 z3 z4 zs HD HS hy6 hlns eo PR
      generalize textL x.sku = y5 at *
      go_wp2_with fail
      clear c0 r1 r2 r3
      generalize wr.alloc (Obj.cells #[Value.string x.sku, Value.int IntKind.i64 x.qty, Value.int IntKind.i64 x.wt] 72) = W5 at *
      generalize wr.heap.size = X at *
      refine (C5.out _).mono ?_
      rintro e x5 ⟨u55, rfl, q5, b5⟩
      obtain ⟨a5, p5, e5, h5⟩ := q5.bytes Y5.out
      subst e5
      have D5 := Lib.hid (A5.out.below b5)
      have H5 := Lib.hid h5
      have RXd := Lib.hid (RX.out.below b5)
      clear q5 b5 h5 RX A5
      go_wp2_with (at_builtin; go_must (refine wpList_append_bytes rfl _ _ rfl (w.heap.size + 1) _ acc y5 rfl D5.out.own a5 p5 rfl H5.out (by omega) D5.out.few ?_))
      rintro v5 w5 o5 g5
      have P5 := Lib.hid (D5.out.put HW.out o5 g5)
      have RXp := Lib.hid (RXd.out.own D5.out.own (by decide) g5)
      clear o5 g5 D5 H5 RXd
      obtain ⟨⟨c0, c1, c2⟩, f0, f1, f2⟩ := cellsR3 RXp.out
      go_wp2_with fail
      clear c0 c1 c2 f0 f1 f2
      refine (C6.out _).mono ?_
      rintro e x6 ⟨u66, rfl, q6, b6⟩
      obtain ⟨a6, p6, e6, h6⟩ := q6.bytes Y6.out
      subst e6
      have D6 := Lib.hid (P5.out.laid b6)
      have H6 := Lib.hid h6
      clear q6 b6 h6 RXp P5
      go_wp2_with (at_builtin; go_must (refine wpList_append_bytes rfl _ _ rfl (w.heap.size + 1) _ (acc ++ y5) y6 rfl D6.out.own a6 p6 rfl H6.out (by rw [List.length_append]; omega) D6.out.few ?_))
      rintro v6 w6 o6 g6
      have P6 : Hid (CwI w r (acc ++ (y5 ++ y6)) v6 w6) := Lib.hid (D6.out.put HW.out o6 g6)
      clear o6 g6 D6 H6
      go_wp2_with fail
      go_roundw
      case rel => exact ⟨k + 1, acc ++ (y5 ++ y6), by omega, by go_num, P6, HN, by rw [List.length_append, List.length_append]; omega⟩
      case measure => simp [intOf]; omega
    · have HE := Lib.hid (show acc = A0 ++ linesL r.m.ls by
        have q := HS.out
        rw [List.drop_eq_nil_of_le (by omega)] at q
        simpa [linesL] using q)
      rw [← HE.out] at HF
      have P := PR
      clear HS HE PR HLB CN YN
      have cells := P.out.on.one.m
      rw [HK.out] at cells
      obtain ⟨⟨c0, c1, c2, c3, c4⟩, c5, c6, c7, c8⟩ := cells
      have gg := ld_grAt c3 c4 c5
      clear c3 c4 c5
      go_wp2_with fail
      refine (C2.out _).mono ?_
      rintro e x2 ⟨u2, rfl, q2, b2⟩
      obtain ⟨a2, p2, e2, h2⟩ := q2.bytes Y2.out
      subst e2
      have D := Lib.hid (P.out.below b2)
      have H2 := Lib.hid h2
      clear q2 b2 h2 P
      clear c0 c1 c2 c6 c7 c8 gg
      go_wp2_with (at_builtin; go_must (refine wpList_append_bytes rfl _ _ rfl (w.heap.size + 1) _ (acc) y2 rfl D.out.own a2 p2 rfl H2.out (by omega) D.out.few ?_))
      rintro v2 w2 o2 g2
      have P := Lib.hid (D.out.put HW.out o2 g2)
      clear o2 g2 D H2
      have cells := P.out.on.one.m
      rw [HK.out] at cells
      obtain ⟨⟨c0, c1, c2, c3, c4⟩, c5, c6, c7, c8⟩ := cells
      have gg := ld_grAt c3 c4 c5
      clear c3 c4 c5
      go_wp2_with fail
      refine (C3.out _).mono ?_
      rintro e x2 ⟨u2, rfl, q2, b2⟩
      obtain ⟨a2, p2, e2, h2⟩ := q2.bytes Y3.out
      subst e2
      have D := Lib.hid (P.out.laid b2)
      have H2 := Lib.hid h2
      clear q2 b2 h2 P
      clear c0 c1 c2 c6 c7 c8 gg
      go_wp2_with (at_builtin; go_must (refine wpList_append_bytes rfl _ _ rfl (w.heap.size + 1) _ (acc ++ y2) y3 rfl D.out.own a2 p2 rfl H2.out (by rw [List.length_append]; omega) D.out.few ?_))
      rintro v2 w2 o2 g2
      have P := Lib.hid (D.out.put HW.out o2 g2)
      clear o2 g2 D H2
      have cells := P.out.on.one.m
      rw [HK.out] at cells
      obtain ⟨⟨c0, c1, c2, c3, c4⟩, c5, c6, c7, c8⟩ := cells
      have gg := ld_grAt c3 c4 c5
      clear c3 c4 c5
      go_wp2_with fail
      go_ret
      refine ⟨_, rfl, ?_, P.out.on.low⟩
      rw [HF.out]
      have q := P.out.own.base (Nat.le_succ _)
      try simp only at q ⊢
      exact q



/-- The document's bytes of a command that can be. -/
theorem refCommand_any (r : CmR) (w : World) (h : CmP w r) (hr : rightC r.m = true) : Calls Tryz.prog 18 #[cmV r] w (OwnPost (commandL r.m) w) := by
  have hf := (rightC_of hr).2
  have hk := rightC_kind hr
  have hkk : r.m.kind = 1 ∨ r.m.kind = 2 ∨ r.m.kind = 3 ∨ r.m.kind = 4 ∨ r.m.kind = 5 ∨ r.m.kind = 6 ∨ r.m.kind = 7 ∨ r.m.kind = 8 := by omega
  rcases hkk with hk | hk | hk | hk | hk | hk | hk | hk
  · exact refCommand1 r w h hk hf
  · exact refCommand2 r w h hk hf
  · exact refCommand3 r w h hk hf
  · exact refCommand4 r w h hk hf
  · cases hy : r.m.yes with
    | true => exact refCommand5t r w h hk hf hy
    | false => exact refCommand5f r w h hk hf hy
  · exact refCommand6 r w h hk hf
  · exact refCommand7 r w h hk hf
  · exact refCommand8 r w h hk hf
end

end Go.Proofs.YtfmpibmhhfmajaaGreatDoor
