/- What SnapReads wants besides: MgBase, LbLeaf, LbCmp, LbRef, Sl, MgLines, MgOrders, MgBatches, MgEffects, DyLeaf. -/
import Derived.Test.YtfmpibmhhfmajaaGreatDoorChecked
import Derived.WalkKit
import Derived.WalkSpells
import Derived.ProofKit
import Derived.Below
import Derived.IntWalk
import Derived.Lib.Hide
import Derived.Laws.BitsAllLaws
import Derived.OpenShut
import Derived.ChangeSlices
import Derived.OwnWalk
import Derived.Laws.AppendOwn
import Derived.Laws.AppendOwnNone
import Derived.Laws.BytesArg
import Derived.Deep.AppendSrc
import Derived.Lib.SlBytesConst
import Derived.Lib.AppendStr
import Derived.Lib.SliceRun
import Derived.Deep.QuietTactic
import Derived.BigQuiet
import Derived.ArgAppend
import Derived.Test.YtfmpibmhhfmajaaGreatDoorMgBase
import Derived.Test.YtfmpibmhhfmajaaGreatDoorPLb
import Derived.Test.YtfmpibmhhfmajaaGreatDoorLbShelf
import Derived.RegionTactic
import Derived.Deep.RegionWith
import Derived.ChangeAlike
import Derived.Test.YtfmpibmhhfmajaaGreatDoorPSl
import Derived.Laws.StructEq
import Derived.Test.YtfmpibmhhfmajaaGreatDoorRows
import Derived.Deep.Slices
import Derived.Deep.Strs
import Derived.Lib.SmallJoins
import Derived.Test.YtfmpibmhhfmajaaGreatDoorMgLines
import Derived.Test.YtfmpibmhhfmajaaGreatDoorMgBatches
import Derived.Deep.RegionLaw
import Derived.Maps.OwnSet
import Derived.Maps.OwnOps
import Derived.Test.YtfmpibmhhfmajaaGreatDoorPDy
import Derived.Test.YtfmpibmhhfmajaaGreatDoorMgOrders
import Derived.Test.YtfmpibmhhfmajaaGreatDoorMgEffects
import Derived.Test.YtfmpibmhhfmajaaGreatDoorDyShelf
import Derived.Test.YtfmpibmhhfmajaaGreatDoorMgState
import Derived.Test.YtfmpibmhhfmajaaGreatDoorMgStates
import Derived.Test.YtfmpibmhhfmajaaGreatDoorMgRight
import Derived.Test.YtfmpibmhhfmajaaGreatDoorMgProg
import Derived.Test.YtfmpibmhhfmajaaGreatDoorMgCopy
import Derived.Test.YtfmpibmhhfmajaaGreatDoorPSc
import Derived.Test.YtfmpibmhhfmajaaGreatDoorPOr
import Derived.Test.YtfmpibmhhfmajaaGreatDoorPBt
import Derived.Test.YtfmpibmhhfmajaaGreatDoorPOb
import Derived.Test.YtfmpibmhhfmajaaGreatDoorSnPlain
import Derived.Test.YtfmpibmhhfmajaaGreatDoorSnLay
import Derived.Test.YtfmpibmhhfmajaaGreatDoorSnPlain2
import Derived.Test.YtfmpibmhhfmajaaGreatDoorSnRef3
import Derived.Test.YtfmpibmhhfmajaaGreatDoorSnRef4
import Derived.Test.YtfmpibmhhfmajaaGreatDoorSnKinds
import Derived.Test.YtfmpibmhhfmajaaGreatDoorSnLines
import Derived.Test.YtfmpibmhhfmajaaGreatDoorSnTold
import Derived.Test.YtfmpibmhhfmajaaGreatDoorSnRight
import Derived.Test.YtfmpibmhhfmajaaGreatDoorSnCon
import Derived.Test.YtfmpibmhhfmajaaGreatDoorSnRow
import Derived.Test.YtfmpibmhhfmajaaGreatDoorSnOwn
import Derived.Test.YtfmpibmhhfmajaaGreatDoorSnRead0
import Derived.Test.YtfmpibmhhfmajaaGreatDoorSnReadP
import Derived.Test.YtfmpibmhhfmajaaGreatDoorSnReadP2
import Derived.Test.YtfmpibmhhfmajaaGreatDoorSnReadP3
import Derived.Test.YtfmpibmhhfmajaaGreatDoorSnReadD
import Derived.Test.YtfmpibmhhfmajaaGreatDoorSnCmd
import Derived.Test.YtfmpibmhhfmajaaGreatDoorSnState
import Derived.Test.YtfmpibmhhfmajaaGreatDoorSnAlive
namespace Go.Proofs.YtfmpibmhhfmajaaGreatDoor

/- MgBase: Texts, blocks, books of what is the program's own: the base. -/
section
/- TxBase: Slices of texts: what they read as; tests that turn nothing that was there; worlds behind some draws. -/
section
set_option maxRecDepth 100000
open Go.ChangeShapes Go.WideShapes Go.ChangeAt Go.RowKit

end

/- TxMem: Slices of texts in memory: what they read as, rows of a call's own, append onto such rows and onto a slice without room. -/
section
set_option maxRecDepth 100000
open Go.RowKit

theorem OwnT.fresh (w : World) (base : Nat) (hb : base ≤ w.heap.size) : OwnT (w.alloc (.cells #[] 9)) base (.slice (some ⟨w.heap.size, 0, none⟩) 0 0) [] := World.ownsRow_made w #[] 0 hb (Nat.zero_le _) (by simp)
end

/- TxSame: What Same of package packhorseref01 answers of two slices of texts. -/
section
set_option maxRecDepth 100000
open Go.RowKit

set_option maxHeartbeats 2000000 in
theorem refSameT_any (a1 a2 : Option Addr) (c1 c2 : Nat) (l m : List ByteArray) (w : World) (h1 : StrsP w a1 c1 l) (h2 : StrsP w a2 c2 m) :
    Calls Tryz.prog 119 #[.slice a1 l.length c1, .slice a2 m.length c2] w (Tell (sameT l m) w) := by
  have H1 := Lib.hid h1
  have H2 := Lib.hid h2
  have hl := h1.len
  clear h1 h2
  by_cases hq : l.length = m.length
  rotate_left
  · have HE := Lib.hid (show sameT l m = false from sameT_len hq)
    go_enter Tryz.func119, Tryz.ntmps119
    go_wp2_with fail
    go_ret
    exact ⟨by rw [HE.out]; rfl, Below.refl _ _⟩
  · have HQ := Lib.hid hq
    rw [← hq]
    clear hq
    go_enter Tryz.func119, Tryz.ntmps119
    go_wp2_with fail
    go_loopw [13] (fun i wr => ∃ k : Nat, k ≤ l.length ∧ i = .int .i64 k ∧ Hid (sameT l m = sameT (l.drop k) (m.drop k)) ∧ Below w.heap.size w wr) (fun i _ => l.length - (intOf i).toNat)
    case atStart => exact ⟨0, Nat.zero_le _, rfl, Lib.hid rfl, Below.refl _ _⟩
    case round =>
      obtain ⟨k, hk, rfl, HK, hbw⟩ := hrel
      by_cases hlt : k < l.length
      · have hltm : k < m.length := by rw [← HQ.out]; exact hlt
        obtain ⟨b1, o1, rfl, q1, r1⟩ := (H1.out.below hbw).at k hlt
        obtain ⟨b2, o2, rfl, q2, s1⟩ := (H2.out.below hbw).at k hltm
        have p1 := H1.out.cap
        have p2 := H2.out.cap
        rw [← HQ.out] at p2
        have HS := Lib.hid (sameT_step l m k hlt hltm)
        generalize l[k] = x at *
        generalize m[k] = y at *
        cases hb : (x.toList == y.toList) with
        | true =>
          have HE := Lib.hid (show sameT l m = sameT (l.drop (k + 1)) (m.drop (k + 1)) by rw [HK.out, HS.out, hb]; rfl)
          go_wp2_with fail
          go_quiet (fail)
          go_wp2_with fail
          go_roundw
          case rel => exact ⟨k + 1, by omega, by go_num, HE, below_drewN hbw _⟩
          case measure => simp [intOf]; omega
        | false =>
          have HE := Lib.hid (show sameT l m = false by rw [HK.out, HS.out, hb]; rfl)
          go_wp2_with fail
          go_quiet (fail)
          go_wp2_with fail
          go_ret
          exact ⟨by rw [HE.out]; rfl, below_drewN hbw _⟩
      · have HE := Lib.hid (same_rest HQ.out hlt HK.out)
        go_wp2_with fail
        go_ret
        exact ⟨by rw [HE.out]; rfl, hbw⟩
end

/- BkPlain: Plain facts on bytes: numbers' bytes, in one way alone. -/
section
end

/- BkOwn: Slices of bytes in memory; bytes in a row of the call's own: put behind others, read as a text; parts of a slice of bytes; what Clone of package bytes answers. -/
section
set_option maxRecDepth 100000
open Go.ChangeShapes Go.WideShapes Go.ChangeAt Go.RowKit

/-- s[:j]. -/
theorem slice_to {a : Option Addr} {cap : Nat} {l : List Nat} (hc : l.length ≤ cap) (k : Nat) (i : Int) (hi : i = (k : Int)) (hk : k ≤ l.length) :
    ∃ a' c', (∀ W, (Instr.slice 40 (.slice a l.length cap) none (some (.int .i64 i)) none).run Tryz.prog W = .ok (.slice a' (l.take k).length c') W) ∧ ∀ W, BytesP W a cap l → BytesP W a' c' (l.take k) := by
  subst hi
  obtain ⟨i0, hi0, hz0, hzs, hzb⟩ := info_parts Tryz.info5
  refine ⟨if cap = 0 then a else a.map (·.add 0), cap, fun W => ?_, fun W h => ⟨by rw [List.length_take]; omega, by have := h.len; rw [List.length_take]; omega, fun b hb => h.byte b (List.mem_of_mem_take hb), fun hne => ?_⟩⟩
  · have hz : (Go.sizeOf 5).run Tryz.prog W = .ok 1 W := by simp [Go.sizeOf, typeInfo, hi0, hzs]
    have h2 : (k : Int) ≤ (cap : Int) := by omega
    have h3 : min k l.length = k := by omega
    simp [Instr.slice, run_underlying Tryz.underlying40, Instr.sliceBounds, run_sliceBound, h2, h3]
  · have hlt : 0 < l.length := by
      rcases Nat.eq_zero_or_pos l.length with h | h
      · rw [List.eq_nil_of_length_eq_zero h] at hne; simp at hne
      · exact h
    obtain ⟨b, o, rfl, hb, hcl⟩ := h.cell (by intro e; subst e; simp at hlt)
    refine ⟨b, o, by rw [if_neg (by omega), Option.map_some, Addr.add_lit]; rfl, hb, fun j x hj => ?_⟩
    rw [List.getElem?_take] at hj
    split at hj
    · exact hcl _ _ hj
    · cases hj

end

/- BkWrite: What Number and Text of package packet, and the document's, answer. -/
section
set_option maxRecDepth 100000
open Go.ChangeShapes Go.WideShapes Go.ChangeAt Go.RowKit

end

/- BkFar: Regions that draw their order, whose operations only read and whose callees may lay memory of their own: walked once, in the worlds that keep all that was there. -/
section
set_option maxRecDepth 100000
open Go.RowKit

end
end

/- LbLeaf: The tests on one sign: what isLetter, isDigit and isSign of package label answer, for every rune. -/
section
set_option maxRecDepth 100000
open Go.RowKit

/-- A byte of a text, by its place. -/
theorem run_byte (s : ByteArray) (k : Nat) (h : k < s.size) (W : World) : (Instr.index 9 (.string s) (.int .i64 (k : Int))).run Tryz.prog W = .ok (.int .u8 ((s.data.toList.getD k 0).toNat : Int)) W := by
  rw [run_index_string W 9 s .i64 _ Tryz.underlying9, dif_pos ⟨by omega, by omega⟩]
  have g := get_bang s k h
  have g1 := get_at s k h
  simp only [Nat.add_zero] at g1
  have e : s[(k : Int).toNat]'(by simpa using h) = s[k]'h := rfl
  rw [e, ← g1, g]
end

/- LbCmp: What Compare answers, in package label and in the document's own words, and that this is an order. -/
section
open Go.RowKit

theorem cmpL_three : ∀ a b : List UInt8, cmpL a b = -1 ∨ cmpL a b = 0 ∨ cmpL a b = 1
  | [], [] => by simp [cmpL_nn]
  | [], _ :: _ => by simp [cmpL_nc]
  | _ :: _, [] => by simp [cmpL_cn]
  | x :: a, y :: b => by
    have := cmpL_three a b
    rw [cmpL_cons]
    split
    · simp
    · split
      · simp
      · exact this

theorem cmpL_drop (a b : List UInt8) (k : Nat) (ha : k < a.length) (hb : k < b.length) : cmpL (a.drop k) (b.drop k) =
    if (a.getD k 0).toNat < (b.getD k 0).toNat then -1 else if (b.getD k 0).toNat < (a.getD k 0).toNat then 1 else cmpL (a.drop (k + 1)) (b.drop (k + 1)) := by
  rw [drop_cons a k ha, drop_cons b k hb, cmpL_cons]

theorem cmpL_end (a b : List UInt8) (k : Nat) (ha : k ≤ a.length) (hb : k ≤ b.length) (h : ¬ (k < a.length ∧ k < b.length)) : cmpL (a.drop k) (b.drop k) =
    if a.length < b.length then -1 else if b.length < a.length then 1 else 0 := by
  by_cases h1 : k < a.length
  · have : k = b.length := by omega
    subst this
    rw [drop_cons a _ h1, List.drop_length, cmpL_cn, if_neg (by omega), if_pos (by omega)]
  · have : k = a.length := by omega
    subst this
    rw [List.drop_length]
    by_cases h2 : a.length < b.length
    · rw [drop_cons b _ h2, cmpL_nc, if_pos h2]
    · rw [List.drop_of_length_le (by omega), cmpL_nn, if_neg h2, if_neg (by omega)]

set_option maxHeartbeats 2000000 in
theorem refCompare_any (a b : ByteArray) (w : World) (ha : a.size ≤ maxLen) (hb : b.size ≤ maxLen) :
    Calls Tryz.prog 59 #[.string a, .string b] w fun e w' => e = .returned (.int .i64 (cmpL a.data.toList b.data.toList)) ∧ Below w.heap.size w w' := by
  unfold maxLen at ha hb
  have HA := Lib.hid (Lib.size_eq a)
  have HB := Lib.hid (Lib.size_eq b)
  go_enter Tryz.func59, Tryz.ntmps59
  go_wp2
  go_loopw [5] (fun i wr => ∃ k : Nat, i = .int .i64 k ∧ k ≤ a.size ∧ k ≤ b.size ∧ Hid (cmpL a.data.toList b.data.toList = cmpL (a.data.toList.drop k) (b.data.toList.drop k)) ∧ Below w.heap.size w wr) (fun i _ => a.size - (intOf i).toNat)
  case atStart => exact ⟨0, rfl, by omega, by omega, rfl, Below.refl _ _⟩
  case round =>
    obtain ⟨k, rfl, hka, hkb, HK, hbw⟩ := hrel
    by_cases hlt : k < a.size ∧ k < b.size
    · obtain ⟨h1, h2⟩ := hlt
      have hia := run_byte a k h1
      have hib := run_byte b k h2
      have HD := Lib.hid (cmpL_drop a.data.toList b.data.toList k (by rw [← HA.out]; exact h1) (by rw [← HB.out]; exact h2))
      generalize (a.data.toList.getD k 0).toNat = x at *
      generalize (b.data.toList.getD k 0).toNat = y at *
      by_cases hxy : x < y
      · have hd : decide ((x : Int) < (y : Int)) = true := by simp; omega
        go_wp2
        go_region
        go_wp2
        go_ret
        exact ⟨ret_int (by rw [HK.out, HD.out, if_pos hxy]), hbw.drew⟩
      · have hd : decide ((x : Int) < (y : Int)) = false := by simp; omega
        by_cases hyx : y < x
        · have hd2 : decide ((y : Int) < (x : Int)) = true := by simp; omega
          go_wp2
          go_region
          go_wp2
          go_region
          go_wp2
          go_ret
          exact ⟨ret_int (by rw [HK.out, HD.out, if_neg hxy, if_pos hyx]), hbw.drew.drew⟩
        · have hd2 : decide ((y : Int) < (x : Int)) = false := by simp; omega
          go_wp2
          go_region
          go_wp2
          go_region
          go_wp2
          go_roundw
          case rel => exact ⟨k + 1, by go_num, by omega, by omega, Lib.hid (HK.out.trans (by rw [HD.out, if_neg hxy, if_neg hyx])), hbw.drew.drew⟩
          case measure => simp [intOf]; omega
    · have HE := Lib.hid (cmpL_end a.data.toList b.data.toList k (by rw [← HA.out]; exact hka) (by rw [← HB.out]; exact hkb) (by rw [← HA.out, ← HB.out]; exact hlt))
      rw [← HA.out, ← HB.out] at HE
      by_cases h1 : k < a.size
      · have h2 : ¬ k < b.size := fun h => hlt ⟨h1, h⟩
        clear hlt
        go_wp2
        all_goals
          go_ret
          refine ⟨ret_int ?_, hbw⟩
          rw [HK.out, HE.out]
          first | rw [if_pos (by omega)] | rw [if_neg (by omega), if_pos (by omega)] | rw [if_neg (by omega), if_neg (by omega)]
      · clear hlt
        go_wp2
        all_goals
          go_ret
          refine ⟨ret_int ?_, hbw⟩
          rw [HK.out, HE.out]
          first | rw [if_pos (by omega)] | rw [if_neg (by omega), if_pos (by omega)] | rw [if_neg (by omega), if_neg (by omega)]
end

/- LbRef: The document's own words on signs: what sign, Signs and Right of package packhorseref01 answer. -/
section
set_option maxRecDepth 100000
open Go.RowKit

def strV (x : List UInt8) : Value := .string ⟨x.toArray⟩
theorem Tryz.info9 : (Tryz.prog.info? 9).map (fun i => (i.zero, i.size, i.bytes)) = some (some (.string ByteArray.empty), 1, 16) := by kernel_rfl


/-- The sign at the head, by its first byte and the one behind it. -/
def sgN (c : Nat) (more : Bool) (d : Nat) : Nat × Bool :=
  if 97 ≤ c ∧ c ≤ 122 then (1, true) else if 48 ≤ c ∧ c ≤ 57 ∨ c = 45 then (1, false) else if more = false then (0, false)
  else if c = 206 ∧ 177 ≤ d ∧ d ≤ 191 ∨ c = 207 ∧ 128 ≤ d ∧ d ≤ 137 then (2, true) else (0, false)

theorem sg_N (l : List UInt8) (k : Nat) (h : k < l.length) : sg (l.drop k) = sgN (l.getD k 0).toNat (decide (k + 1 < l.length)) (l.getD (k + 1) 0).toNat := by
  rw [drop_cons l k h]
  generalize l.getD k 0 = c
  simp only [sg, sgN]
  by_cases h1 : let1 c = true
  · have : 97 ≤ c.toNat ∧ c.toNat ≤ 122 := by simpa [let1] using h1
    rw [if_pos h1, if_pos this]
  · have : ¬ (97 ≤ c.toNat ∧ c.toNat ≤ 122) := by simpa [let1] using h1
    rw [if_neg h1, if_neg this]
    by_cases h2 : one c = true
    · have h2' : 48 ≤ c.toNat ∧ c.toNat ≤ 57 ∨ c.toNat = 45 := by
        simp only [one, Bool.or_eq_true, h1, decide_eq_true_eq] at h2
        rcases h2 with h2 | h2
        · cases h2
        · exact h2
      rw [if_pos h2, if_pos h2']
    · have h2' : ¬ (48 ≤ c.toNat ∧ c.toNat ≤ 57 ∨ c.toNat = 45) := by
        intro h3
        exact h2 (by simp only [one, Bool.or_eq_true, decide_eq_true_eq]; exact Or.inr h3)
      rw [if_neg h2, if_neg h2']
      by_cases h3 : k + 1 < l.length
      · rw [drop_cons l (k + 1) h3]
        generalize l.getD (k + 1) 0 = d
        have h4 : decide (k + 1 < l.length) = true := by simpa using h3
        simp only [h4, Bool.true_eq_false, if_false]
        unfold two
        simp only [decide_eq_true_eq]
      · rw [List.drop_of_length_le (by omega)]
        have h4 : decide (k + 1 < l.length) = false := by simpa using h3
        simp only [h4, if_true]

set_option maxHeartbeats 2000000 in
theorem sign_any (s : ByteArray) (k : Nat) (w : World) (hs : s.size ≤ maxLen) (hk : k < s.size) :
    Calls Tryz.prog 146 #[.string s, .int .i64 k] w fun e w' => e = .returned (.tuple #[.int .i64 ((sg (s.data.toList.drop k)).1 : Nat), .bool (sg (s.data.toList.drop k)).2]) ∧ w = w' := by
  unfold maxLen at hs
  have hl : s.data.toList.length = s.size := (Lib.size_eq s).symm
  have HS := Lib.hid (sg_N s.data.toList k (by omega))
  rw [hl] at HS
  have hx := run_byte s k hk
  clear hl
  by_cases h1 : k + 1 < s.size
  · have hy := run_byte s (k + 1) h1
    have e1 : ((k + 1 : Nat) : Int) = (k : Int) + 1 := by omega
    rw [e1] at hy
    have hd : decide (k + 1 < s.size) = true := by simpa using h1
    rw [hd] at HS
    have hcb := (s.data.toList.getD k 0).toNat_lt
    have hdb := (s.data.toList.getD (k + 1) 0).toNat_lt
    generalize (s.data.toList.getD k 0).toNat = c at *
    generalize (s.data.toList.getD (k + 1) 0).toNat = d at *
    clear hd e1
    go_enter Tryz.func146, Tryz.ntmps146
    go_wp2
    all_goals
      go_ret2
      refine ⟨?_, rfl⟩
      rw [HS.out]
      simp only [beq_iff_eq, beq_eq_false_iff_ne, ne_eq] at *
      simp only [sgN, Bool.true_eq_false, if_false]
      repeat' split
      all_goals first | rfl | (exfalso; omega)
  · have hd : decide (k + 1 < s.size) = false := by simpa using h1
    rw [hd] at HS
    have hcb := (s.data.toList.getD k 0).toNat_lt
    generalize (s.data.toList.getD k 0).toNat = c at *
    generalize (s.data.toList.getD (k + 1) 0).toNat = d at *
    clear hd
    go_enter Tryz.func146, Tryz.ntmps146
    go_wp2
    all_goals
      go_ret2
      refine ⟨?_, rfl⟩
      rw [HS.out]
      simp only [beq_iff_eq, beq_eq_false_iff_ne, ne_eq] at *
      simp only [sgN, if_true]
      repeat' split
      all_goals first | rfl | (exfalso; omega)


def csL (l : List UInt8) : List (List UInt8) := (labOf l).getD []
theorem csL_none {l : List UInt8} (h : labOf l = none) : csL l = [] := by simp [csL, h]
theorem csL_fin {l : List UInt8} {pos k pre} (h : Pre l pos k pre) (hp : ¬ pos < l.length) : csL l = pre := by
  have := h.fin hp
  unfold csL
  rw [this]
  split
  · rename_i hk
    have : pre = [] := List.eq_nil_of_length_eq_zero (by rw [h.len, hk])
    rw [this]; rfl
  · rfl
theorem csL_right (l : List UInt8) : decide (0 < (csL l).length) = rightB l := by
  unfold csL rightB
  cases h : labOf l with
  | none => simp
  | some cs =>
    obtain ⟨_, h1, _⟩ := labOf_some.1 h
    have : 0 < cs.length := List.length_pos_iff.2 h1
    simpa using this

theorem own_shape {w : World} {base : Nat} {v : Value} {n : Nat} {xs : List Value} (h : w.ownsRow base 9 1 v n xs) : ∃ a cap, v = .slice a n cap := by
  rcases h.2 with ⟨rfl, rfl⟩ | ⟨g, cap, cur, rfl, _⟩
  · exact ⟨none, 0, rfl⟩
  · exact ⟨_, _, rfl⟩

/-- What Signs leaves: the signs, one by one. -/
def RefSigns (l : List UInt8) (w : World) (e : Ending) (w' : World) : Prop :=
  ∃ v, e = .returned v ∧ w'.ownsRow w.heap.size 9 1 v (csL l).length ((csL l).map strV) ∧ Below w.heap.size w w'

def RefRel (l : List UInt8) (w : World) (v i : Value) (wr : World) : Prop :=
  ∃ (pos k : Nat) (pre : List (List UInt8)), i = .int .i64 pos ∧ Pre l pos k pre ∧ wr.ownsRow w.heap.size 9 1 v k (pre.map strV) ∧ Below w.heap.size w wr

set_option maxHeartbeats 2000000 in
theorem refSigns_any (s : ByteArray) (w : World) (hs : s.size ≤ maxLen) : Calls Tryz.prog 107 #[.string s] w (RefSigns s.data.toList w) := by
  obtain ⟨i0, hi, hz0, hz1, hz2⟩ := info_parts Tryz.info9
  have HL := Lib.hid (Lib.size_eq s)
  have HM := Lib.hid hs
  unfold maxLen at hs
  go_enter Tryz.func107, Tryz.ntmps107
  go_wp2_with fail
  go_loopw [3, 4] (fun v i wr => RefRel s.data.toList w v i wr) (fun _ i _ => s.size - (intOf i).toNat)
  case atStart => exact ⟨0, 0, [], rfl, Pre.nil _, World.ownsRow_made w #[] 0 (Nat.le_refl _) (by unfold maxLen; omega) rfl, (Below.refl _ _).alloc (Nat.le_refl _) _⟩
  case round =>
    obtain ⟨pos, k, pre, rfl, hP, hown, hbw⟩ := hrel
    obtain ⟨ao, cv, rfl⟩ := own_shape hown
    have h16 := hP.most
    have hps : pos ≤ s.size := by rw [HL.out]; exact hP.le
    by_cases hp : pos < s.size
    · have C := Lib.hid (fun w => sign_any s pos w HM.out hp)
      have HP := Lib.hid hP
      have HO := Lib.hid hown
      have hpl : pos < s.data.toList.length := by rw [← HL.out]; exact hp
      have HB := Lib.hid (fun hb => hP.bad hpl hb)
      have HST := Lib.hid (fun hz hk h16 => hP.step hz hk h16)
      obtain ⟨sgv, hsgv⟩ : ∃ sgv, sg (s.data.toList.drop pos) = sgv := ⟨_, rfl⟩
      rw [hsgv] at C HB HST
      obtain ⟨wd, lt⟩ := sgv
      have hwl : wd ≠ 0 → pos + wd ≤ s.size := by
        intro h
        have := (sg_pos (t := s.data.toList.drop pos) (by rw [hsgv]; exact h)).1
        rw [hsgv, List.length_drop, ← HL.out] at this
        simp only at this
        omega
      have HW := Lib.hid hwl
      clear hwl hsgv hP hown hpl
      by_cases hw0 : wd = 0
      · subst hw0
        have HF := Lib.hid (csL_none (HB.out (Or.inl rfl)))
        go_wp2_with fail
        refine (C.out _).mono ?_
        rintro e w' ⟨rfl, rfl⟩
        go_wp2_with fail
        go_ret
        refine ⟨.slice none 0 0, rfl, ?_, hbw⟩
        rw [HF.out]; exact World.ownsRow_nil _ _ _ _
      · have d0 : ((wd : Int) == 0) = false := by simpa using hw0
        have hw1 := HW.out hw0
        by_cases hk0 : k = 0
        · subst hk0
          cases lt with
          | false =>
            have HF := Lib.hid (csL_none (HB.out (Or.inr (Or.inl ⟨rfl, rfl⟩))))
            go_wp2_with fail
            refine (C.out _).mono ?_
            rintro e w' ⟨rfl, rfl⟩
            go_wp2_with fail
            go_ret
            refine ⟨.slice none 0 0, rfl, ?_, hbw⟩
            rw [HF.out]; exact World.ownsRow_nil _ _ _ _
          | true =>
            have HF := Lib.hid (HST.out hw0 (fun _ => rfl) (by omega))
            go_wp2_with fail
            refine (C.out _).mono ?_
            rintro e w' ⟨rfl, rfl⟩
            go_wp2_with (at_builtin; go_must (refine wpList_append_own _ rfl _ _ 96 rfl w.heap.size 9 i0 (.string ByteArray.empty) 1 16 Tryz.underlying96 hi hz0 hz1 hz2 rfl (by decide) _ _ _ rfl (HO.out.alloc _) ⟨wr.heap.size, 0, none⟩ 1 1 [.string (s.extract pos (pos + wd))] rfl rfl (cell_one_new _ _ _) (fun x hx => by simp at hx; subst hx; rfl) (by unfold maxLen; omega) (by omega) (by have := hbw.size; simp; omega) ?_; intro v' w3 hown' hgrow3 hnil3))
            go_roundw
            case rel =>
              refine ⟨pos + wd, 1, _, by go_num, HF.out, ?_, ?_⟩
              · rw [List.map_append]
                have e : strV ((s.data.toList.drop pos).take wd) = .string (s.extract pos (pos + wd)) := by
                  unfold strV; rw [Lib.extract_eq]; simp
                simp only [List.map_cons, List.map_nil, e]
                exact hown'
              · exact ((hbw.alloc hbw.size _).grown hgrow3 (by have := hbw.size; simp; omega) (fun k hk => (HO.out.lt k hk).1))
            case measure => simp [intOf]; omega
        · have d1 : ((k : Int) == 0) = false := by simpa using hk0
          by_cases hk16 : k = 16
          · have d2 : ((k : Int) == 16) = true := by simp; omega
            have HF := Lib.hid (csL_none (HB.out (Or.inr (Or.inr hk16))))
            clear hk16
            go_wp2_with fail
            refine (C.out _).mono ?_
            rintro e w' ⟨rfl, rfl⟩
            go_wp2_with fail
            go_ret
            refine ⟨.slice none 0 0, rfl, ?_, hbw⟩
            rw [HF.out]; exact World.ownsRow_nil _ _ _ _
          · have d2 : ((k : Int) == 16) = false := by simp; omega
            have HF := Lib.hid (HST.out hw0 (fun h => absurd h hk0) hk16)
            go_wp2_with fail
            refine (C.out _).mono ?_
            rintro e w' ⟨rfl, rfl⟩
            go_wp2_with (at_builtin; go_must (refine wpList_append_own _ rfl _ _ 96 rfl w.heap.size 9 i0 (.string ByteArray.empty) 1 16 Tryz.underlying96 hi hz0 hz1 hz2 rfl (by decide) _ _ _ rfl (HO.out.alloc _) ⟨wr.heap.size, 0, none⟩ 1 1 [.string (s.extract pos (pos + wd))] rfl rfl (cell_one_new _ _ _) (fun x hx => by simp at hx; subst hx; rfl) (by unfold maxLen; omega) (by omega) (by have := hbw.size; simp; omega) ?_; intro v' w3 hown' hgrow3 hnil3))
            go_roundw
            case rel =>
              refine ⟨pos + wd, k + 1, _, by go_num, HF.out, ?_, ?_⟩
              · rw [List.map_append]
                have e : strV ((s.data.toList.drop pos).take wd) = .string (s.extract pos (pos + wd)) := by
                  unfold strV; rw [Lib.extract_eq]; simp
                simp only [List.map_cons, List.map_nil, e]
                exact hown'
              · exact ((hbw.alloc hbw.size _).grown hgrow3 (by have := hbw.size; simp; omega) (fun k hk => (HO.out.lt k hk).1))
            case measure => simp [intOf]; omega
    · have HF := Lib.hid (csL_fin hP (by rw [← HL.out]; exact hp))
      have HO := Lib.hid hown
      have HN := Lib.hid hP.len
      clear hP hown
      go_wp2_with fail
      go_ret
      refine ⟨_, rfl, ?_, hbw⟩
      rw [HF.out, HN.out]
      exact HO.out


theorem refRight_any (s : ByteArray) (w : World) (hs : s.size ≤ maxLen) : Calls Tryz.prog 40 #[.string s] w fun e w' => e = .returned (.bool (rightB s.data.toList)) ∧ Below w.heap.size w w' := by
  have C := Lib.hid (fun w => refSigns_any s w hs)
  have HR := Lib.hid (csL_right s.data.toList)
  go_enter Tryz.func40, Tryz.ntmps40
  go_wp2_with fail
  refine (C.out _).mono ?_
  rintro e w1 ⟨v, rfl, o1, b1⟩
  obtain ⟨a, cap, rfl⟩ := own_shape o1
  clear o1
  go_wp2_with fail
  go_ret
  exact ⟨ret_bool HR.out, b1⟩
end

/- Sl: Slices of structs, whichever struct it is: their cells one behind the other, rows of the call's own, what is put behind them, parts of them. -/
section
set_option maxRecDepth 100000
open Go.RowKit Go.Lib Go.ChangeShapes Go.WideShapes Go.ChangeAt

section
variable {α : Type} {L : Lay α}

theorem OwnS.fresh (w : World) (base : Nat) (hb : base ≤ w.heap.size) : OwnS L (w.alloc (.cells #[] L.T)) base (.slice (some ⟨w.heap.size, 0, none⟩) 0 0) [] :=
  ⟨by simp [cellsG], .inr ⟨w.heap.size, 0, #[], rfl, hb, heap_alloc_new w _, Nat.le_refl _, Nat.zero_le _, by simp, by simp [cellsG]⟩⟩
end
end

/- MgLines: Lines, and what comes in. -/
section
/- LnPlain: Plain facts on lines, as lists: which can be, each thing once, without some pieces: no program is walked here. -/
section
theorem kcmp_three (a b : ByteArray) : kcmp a b = -1 ∨ kcmp a b = 0 ∨ kcmp a b = 1 := cmpL_three _ _
end

/- LnMem: Slices of lines in memory; what isLine, find$1, Pieces$1 and Weight$1 of package lines answer of one line. -/
section
set_option maxRecDepth 100000
open Go.RowKit

theorem refCmp_any (a b : ByteArray) (w : World) (ha : a.size ≤ maxLen) (hb : b.size ≤ maxLen) : Calls Tryz.prog 59 #[.string a, .string b] w fun e w' => e = .returned (.int .i64 (kcmp a b)) ∧ Below w.heap.size w w' := refCompare_any a b w ha hb

end

/- LnRight: What Right of package lines answers, at every slice of lines. -/
section
set_option maxRecDepth 100000
open Go.RowKit

theorem lineB_false {x : Ln} (h : lineB x = false) : rightB x.sku.data.toList = false ∨ rightB x.sku.data.toList = true ∧ (x.qty < 1 ∨ 1 ≤ x.qty ∧ (1000 < x.qty ∨ x.qty ≤ 1000 ∧ (x.wt < 0 ∨ 0 ≤ x.wt ∧ 100000 < x.wt))) := by
  cases hr : rightB x.sku.data.toList with
  | false => exact Or.inl rfl
  | true =>
    refine Or.inr ⟨rfl, ?_⟩
    simp only [lineB, hr, Bool.true_and, decide_eq_false_iff_not] at h
    omega

set_option maxHeartbeats 4000000 in
theorem refRight15_any (a : Option Addr) (cap : Nat) (l : List Ln) (w : World) (h : LnsP w a cap l) (hm : l.length ≤ maxLen) :
    Calls Tryz.prog 41 #[.slice a l.length cap] w fun e w' => e = .returned (.bool (rightLB l)) ∧ Below w.heap.size w w' := by
  have H := Lib.hid h
  clear h
  unfold maxLen at hm
  by_cases h1 : 1 ≤ l.length
  · by_cases h8 : l.length ≤ 8
    · have HR := Lib.hid (show rightLB l = goodFrom (prevAt l 0) (l.drop 0) by simp [rightLB, h1, h8, prevAt])
      have e1 : decide ((l.length : Int) < 1) = false := by simp; omega
      have e2 : decide (8 < (l.length : Int)) = false := by simp; omega
      go_enter Tryz.func41, Tryz.ntmps41
      go_wp2_with fail
      go_loopw [15] (fun i wr => ∃ (k : Nat), k ≤ l.length ∧ i = .int .i64 k ∧ Hid (rightLB l = goodFrom (prevAt l k) (l.drop k)) ∧ Below w.heap.size w wr) (fun i _ => l.length - (intOf i).toNat)
      case atStart => exact ⟨0, Nat.zero_le _, rfl, HR, Below.refl _ _⟩
      case round =>
        obtain ⟨k, hk, rfl, HK, hbw⟩ := hrel
        by_cases hlt : k < l.length
        · have HL := Lib.hid (H.out.below hbw)
          obtain ⟨b, o, ea, hb, c1, c2, c3, hsz⟩ := HL.out.at k hlt
          subst ea
          have p1 := H.out.cap
          have HS := Lib.hid (goodFrom_step l k hlt)
          have C := Lib.hid (fun w => refRight_any l[k].sku w hsz)
          have HX := Lib.hid (show ∀ j, k = j + 1 → ∃ hj : j < l.length, prevAt l k = some l[j] ∧ wr.cell? ⟨b, o + j * 3, none⟩ = some (.string l[j].sku) ∧ l[j].sku.size ≤ maxLen by
            intro j hj
            subst hj
            have hj' : j < l.length := by omega
            obtain ⟨b', o', e, _, q1, _, _, q4⟩ := HL.out.at j hj'
            injection e with e
            injection e with ea eo
            subst ea eo
            exact ⟨hj', prevAt_pos hj', q1, q4⟩)
          have HSZ := Lib.hid hsz
          clear hsz
          generalize l[k] = x at *
          have hbw1 := hbw.alloc hbw.size (Obj.cells #[Value.string x.sku, Value.int IntKind.i64 x.qty, Value.int IntKind.i64 x.wt] 72)
          have d0 : (wr.alloc (Obj.cells #[Value.string x.sku, Value.int IntKind.i64 x.qty, Value.int IntKind.i64 x.wt] 72)).cell? ⟨wr.heap.size, 0, none⟩ = some (.string x.sku) := by simp
          have d1 : (wr.alloc (Obj.cells #[Value.string x.sku, Value.int IntKind.i64 x.qty, Value.int IntKind.i64 x.wt] 72)).cell? ⟨wr.heap.size, 1, none⟩ = some (.int .i64 x.qty) := by simp
          have d2 : (wr.alloc (Obj.cells #[Value.string x.sku, Value.int IntKind.i64 x.qty, Value.int IntKind.i64 x.wt] 72)).cell? ⟨wr.heap.size, 2, none⟩ = some (.int .i64 x.wt) := by simp
          have hz : wr.heap.size < (wr.alloc (Obj.cells #[Value.string x.sku, Value.int IntKind.i64 x.qty, Value.int IntKind.i64 x.wt] 72)).heap.size := by simp
          have D := Lib.hid (And.intro d0 (And.intro d1 (And.intro d2 hz)))
          have BA := Lib.hid (show Below wr.heap.size wr (wr.alloc (Obj.cells #[Value.string x.sku, Value.int IntKind.i64 x.qty, Value.int IntKind.i64 x.wt] 72)) from (Below.refl _ _).alloc (Nat.le_refl _) _)
          clear d0 d1 d2 hz
          cases hlb : lineB x with
          | false =>
            have HE := Lib.hid (show rightLB l = false by rw [HK.out, HS.out, hlb]; rfl)
            rcases lineB_false hlb with h0 | ⟨h0, h0' | ⟨h1', h0' | ⟨h2', h0' | ⟨h3', h0'⟩⟩⟩⟩
            all_goals
              rw [h0] at C
              clear hlb h0
              go_wp2_with fail
              generalize wr.alloc (Obj.cells #[Value.string x.sku, Value.int IntKind.i64 x.qty, Value.int IntKind.i64 x.wt] 72) = W1 at *
              refine (C.out _).mono ?_
              rintro e w1 ⟨rfl, b1⟩
              have b2 := hbw1.trans (b1.mono hbw1.size)
              have e3 := (b1.cell (p := ⟨wr.heap.size, 1, none⟩) D.out.2.2.2).trans D.out.2.1
              have e4 := (b1.cell (p := ⟨wr.heap.size, 2, none⟩) D.out.2.2.2).trans D.out.2.2.1
              go_wp2_with fail
              go_ret
              exact ⟨by rw [HE.out]; rfl, b2⟩
          | true =>
            obtain ⟨hr0, hx1, hx2, hx3, hx4⟩ := lineB_of hlb
            rw [hr0] at C
            have HLB := Lib.hid hlb
            clear hlb hr0
            go_wp2_with fail
            generalize wr.alloc (Obj.cells #[Value.string x.sku, Value.int IntKind.i64 x.qty, Value.int IntKind.i64 x.wt] 72) = W1 at *
            refine (C.out _).mono ?_
            rintro e w1 ⟨rfl, b1⟩
            have b2 := hbw1.trans (b1.mono hbw1.size)
            have e3 := (b1.cell (p := ⟨wr.heap.size, 1, none⟩) D.out.2.2.2).trans D.out.2.1
            have e4 := (b1.cell (p := ⟨wr.heap.size, 2, none⟩) D.out.2.2.2).trans D.out.2.2.1
            have D2 := Lib.hid (And.intro ((b1.cell (p := ⟨wr.heap.size, 0, none⟩) D.out.2.2.2).trans D.out.1) (Nat.lt_of_lt_of_le D.out.2.2.2 b1.size))
            have D3 := Lib.hid (show ∀ o v, wr.cell? ⟨b, o, none⟩ = some v → w1.cell? ⟨b, o, none⟩ = some v from fun o v h => (b1.cell (p := ⟨b, o, none⟩) (Nat.lt_of_lt_of_le hb BA.out.size)).trans ((BA.out.cell (p := ⟨b, o, none⟩) hb).trans h))
            have hb1 : b < w1.heap.size := Nat.lt_of_lt_of_le hb (Nat.le_trans BA.out.size b1.size)
            by_cases hk0 : 0 < k
            · obtain ⟨j, rfl⟩ : ∃ j, k = j + 1 := ⟨k - 1, by omega⟩
              obtain ⟨hj, hp, hc, hjs⟩ := HX.out j rfl
              have CC := Lib.hid (fun w => refCmp_any l[j].sku x.sku w hjs HSZ.out)
              generalize l[j] = y at *
              have D4 := Lib.hid (And.intro hb1 (D3.out _ _ hc))
              clear hc hjs
              have h3 := kcmp_three y.sku x.sku
              cases hq : decide (kcmp y.sku x.sku < 0) with
              | false =>
                have HE := Lib.hid (show rightLB l = false by rw [HK.out, HS.out, HLB.out, hp, behindB]; simp only [hq]; rfl)
                have hq3 : (kcmp y.sku x.sku != -1) = true := by simp at hq ⊢; omega
                clear hq hp h3
                generalize kcmp y.sku x.sku = c at *
                go_wp2_with fail
                clear e3 e4
                have f1 := far_cell D2.out.2 D2.out.1
                have f4 := far_cell D4.out.1 D4.out.2
                refine wp_region_far (by kernel_rfl) (by kernel_rfl) ?_
                repeat (first | go_big_quiet_step ((go_at_call 59; exact calls_far (CC.out _))) | quiet_step ((go_at_call 59; exact calls_far (CC.out _))))
                refine wpQuiet_nil ?_
                intro _ hw'
                obtain ⟨p, hw''⟩ := hw'
                subst hw''
                go_wp2_with fail
                go_ret
                exact ⟨by rw [HE.out]; rfl, b2.trans ((far_below _ _).mono b2.size)⟩
              | true =>
                have HE := Lib.hid (show rightLB l = goodFrom (prevAt l (j + 1 + 1)) (l.drop (j + 1 + 1)) by rw [HK.out, HS.out, HLB.out, hp, behindB]; simp only [hq]; rfl)
                have hq3 : (kcmp y.sku x.sku != -1) = false := by simp at hq ⊢; omega
                clear hq hp h3
                generalize kcmp y.sku x.sku = c at *
                go_wp2_with fail
                clear e3 e4
                have f1 := far_cell D2.out.2 D2.out.1
                have f4 := far_cell D4.out.1 D4.out.2
                refine wp_region_far (by kernel_rfl) (by kernel_rfl) ?_
                repeat (first | go_big_quiet_step ((go_at_call 59; exact calls_far (CC.out _))) | quiet_step ((go_at_call 59; exact calls_far (CC.out _))))
                refine wpQuiet_nil ?_
                intro _ hw'
                obtain ⟨p, hw''⟩ := hw'
                subst hw''
                go_wp2_with fail
                go_roundw
                case rel => exact ⟨j + 1 + 1, by omega, by go_num, HE, b2.trans ((far_below _ _).mono b2.size)⟩
                case measure => simp [intOf]; omega
            · have HP := Lib.hid (show prevAt l k = none by simp [prevAt]; omega)
              have HE := Lib.hid (show rightLB l = goodFrom (prevAt l (k + 1)) (l.drop (k + 1)) by rw [HK.out, HS.out, HLB.out, HP.out]; rfl)
              go_wp2_with fail
              clear e3 e4
              have f1 := far_cell D2.out.2 D2.out.1
              refine wp_region_far (by kernel_rfl) (by kernel_rfl) ?_
              repeat (first | go_big_quiet_step (fail) | quiet_step (fail))
              refine wpQuiet_nil ?_
              intro _ hw'
              obtain ⟨p, hw''⟩ := hw'
              subst hw''
              go_wp2_with fail
              go_roundw
              case rel => exact ⟨k + 1, by omega, by go_num, HE, b2.trans ((far_below _ _).mono b2.size)⟩
              case measure => simp [intOf]; omega
        · have HE := Lib.hid (show rightLB l = true by rw [HK.out, List.drop_eq_nil_of_le (by omega)]; rfl)
          go_wp2_with fail
          go_ret
          exact ⟨by rw [HE.out]; rfl, hbw⟩
    · have HE := Lib.hid (show rightLB l = false by simp [rightLB, h8])
      go_enter Tryz.func41, Tryz.ntmps41
      go_wp2_with fail
      go_ret
      exact ⟨by rw [HE.out]; rfl, Below.refl _ _⟩
  · have HE := Lib.hid (show rightLB l = false by simp [rightLB, h1])
    go_enter Tryz.func41, Tryz.ntmps41
    go_wp2_with fail
    go_ret
    exact ⟨by rw [HE.out]; rfl, Below.refl _ _⟩
end

/- LnSum: What lines weigh: Weight of package lines, and the document's. -/
section
set_option maxRecDepth 100000
open Go.RowKit

set_option maxHeartbeats 2000000 in
/-- The document's. -/
theorem refWeight_any (a : Option Addr) (cap : Nat) (l : List Ln) (w : World) (h : LnsP w a cap l) (hm : l.length ≤ maxLen) :
    Calls Tryz.prog 147 #[.slice a l.length cap] w fun e w' => e = .returned (.int .i64 (weightV l)) ∧ Below w.heap.size w w' := by
  have C := Lib.hid (fun W hW => refRight15_any a cap l W hW hm)
  have H := Lib.hid h
  clear h
  unfold maxLen at hm
  cases hr : rightLB l with
  | false =>
    have HV := Lib.hid (show weightV l = 0 by unfold weightV; rw [hr]; rfl)
    rw [hr] at C
    clear hr
    go_enter Tryz.func147, Tryz.ntmps147
    go_wp2_with fail
    go_loopw [3, 8] (fun s i wr => ∃ (k : Nat), k ≤ l.length ∧ i = .int .i64 k ∧ s = .int .i64 0 ∧ Below w.heap.size w wr) (fun _ i _ => l.length - (intOf i).toNat)
    case atStart => exact ⟨0, Nat.zero_le _, rfl, rfl, Below.refl _ _⟩
    case round =>
      obtain ⟨k, hk, rfl, rfl, hbw⟩ := hrel
      by_cases hlt : k < l.length
      · obtain ⟨b, o, rfl, hb, c1, c2, c3, hsz⟩ := (H.out.below hbw).at k hlt
        have p1 := H.out.cap
        have b2 := hbw.alloc hbw.size (Obj.cells #[Value.string l[k].sku, Value.int IntKind.i64 l[k].qty, Value.int IntKind.i64 l[k].wt] 72)
        have CC := Lib.hid (C.out _ (H.out.below b2))
        generalize l[k] = x at *
        go_wp2_with fail
        refine CC.out.mono ?_
        rintro e w2 ⟨rfl, b3⟩
        go_wp2_with fail
        go_roundw
        case rel => exact ⟨k + 1, by omega, by go_num, rfl, b2.trans (b3.mono b2.size)⟩
        case measure => simp [intOf]; omega
      · go_wp2_with fail
        go_ret
        exact ⟨by rw [HV.out]; rfl, hbw⟩
  | true =>
    have HV := Lib.hid (show weightV l = sumW l by unfold weightV; rw [hr]; rfl)
    have HL := Lib.hid ((rightLB_iff l).1 hr)
    rw [hr] at C
    clear hr
    go_enter Tryz.func147, Tryz.ntmps147
    go_wp2_with fail
    go_loopw [3, 8] (fun s i wr => ∃ (k : Nat), k ≤ l.length ∧ i = .int .i64 k ∧ s = .int .i64 (sumW (l.take k)) ∧ Below w.heap.size w wr) (fun _ i _ => l.length - (intOf i).toNat)
    case atStart => exact ⟨0, Nat.zero_le _, rfl, rfl, Below.refl _ _⟩
    case round =>
      obtain ⟨k, hk, rfl, rfl, hbw⟩ := hrel
      by_cases hlt : k < l.length
      · obtain ⟨b, o, rfl, hb, c1, c2, c3, hsz⟩ := (H.out.below hbw).at k hlt
        have p1 := H.out.cap
        have hb0 := sumW_bound (l.take k) (fun x hx => HL.out.2.1 x (List.mem_of_mem_take hx))
        have hlen : (l.take k).length ≤ 8 := by rw [List.length_take]; have := HL.out.1.2; omega
        have hx := HL.out.2.1 _ (List.getElem_mem hlt)
        have hp := prod_bound hx
        have hx2 := lineB_of hx
        have HT := Lib.hid (show sumW (l.take (k + 1)) = sumW (l.take k) + l[k].qty * l[k].wt by rw [List.take_succ_eq_append_getElem hlt, sumW_append, sumW_cons, sumW_nil]; omega)
        have q1 : 0 ≤ sumW (l.take k) := by omega
        have q2 : sumW (l.take k) ≤ 800000000 := by omega
        have q3 : 0 ≤ l[k].qty * l[k].wt := by omega
        have q4 : l[k].qty * l[k].wt ≤ 100000000 := by omega
        have b2 := hbw.alloc hbw.size (Obj.cells #[Value.string l[k].sku, Value.int IntKind.i64 l[k].qty, Value.int IntKind.i64 l[k].wt] 72)
        have CC := Lib.hid (C.out _ (H.out.below b2))
        have R := Lib.hid (heap_alloc_new wr (Obj.cells #[Value.string l[k].sku, Value.int IntKind.i64 l[k].qty, Value.int IntKind.i64 l[k].wt] 72))
        clear hb0 hlen hx hp hx2
        generalize l[k] = x at *
        generalize sumW (l.take k) = s at *
        go_wp2_with fail
        refine CC.out.mono ?_
        rintro e w2 ⟨rfl, b3⟩
        have R2 := (b3.block wr.heap.size (by simp)).trans R.out
        have d1 : w2.cell? ⟨wr.heap.size, 1, none⟩ = some (.int .i64 x.qty) := by simp [World.cell?, R2]
        have d2 : w2.cell? ⟨wr.heap.size, 2, none⟩ = some (.int .i64 x.wt) := by simp [World.cell?, R2]
        clear R2
        go_wp2_with fail
        go_roundw
        case rel => exact ⟨k + 1, by omega, by go_num, by rw [HT.out], b2.trans (b3.mono b2.size)⟩
        case measure => simp [intOf]; omega
      · have HT := Lib.hid (show sumW (l.take k) = sumW l by rw [List.take_of_length_le (by omega)])
        go_wp2_with fail
        go_ret
        exact ⟨by rw [HV.out, ← HT.out]; rfl, hbw⟩
end

/- LnOwn: Rows of lines that a call has made for itself; lines put behind lines in such a row. -/
section
set_option maxRecDepth 100000
open Go.RowKit Go.Lib

theorem wpList_append_lines {w : World} {ops : Array Oper} {rest : List Oper} {o : Oper} {a : Act} {Q : Exit → Act → World → Prop} (hgd : o.guard = none) (s x : Operand)
    (ho : o.op = .call { callee := .builtin .append, args := #[s, x], argTypes := #[22, 22] }) (base : Nat) (v : Value) (xs ys : List Ln) (hs : a.eval s = v) (hown : OwnL w base v xs) (A : Option Addr) (cA : Nat)
    (hx : a.eval x = .slice A ys.length cA) (hy : LnsP w A cA ys) (hlen : xs.length + ys.length ≤ 1000000) (hb : base ≤ w.heap.size)
    (h : ∀ v' w', OwnL w' base v' (xs ++ ys) → w.grownBy w' v.ownBlock → wpList Tryz.prog ops Q rest (a.put o.dst v') w') : wpList Tryz.prog ops Q (o :: rest) a w :=
  wpList_plain hgd fun _ hK => wp_append_lines s x ho base v xs ys hs hown A cA hx hy hlen hb fun v' w' h1 h2 => hK _ _ (h v' w' h1 h2)

end

/- ScPlain: Plain facts on bytes that are read on, number by number and text by text: what is written is read, and what is read is as it would be written. -/
section
set_option maxRecDepth 100000

end

/- ScLeaf: What Right of package tally answers, the document's Right of numbers and Group; three texts in a block. -/
section
set_option maxRecDepth 100000
open Go.RowKit

set_option maxHeartbeats 1000000 in
theorem refTally_any (n : Int) (w : World) : Calls Tryz.prog 43 #[.int .i64 n] w (BoolSame (tallyB n) w) := by
  have HE := Lib.hid (show tallyB n = (decide (0 ≤ n) && decide (n ≤ 1000000000000)) by rw [Bool.eq_iff_iff]; simp [tallyB])
  cases h1 : decide (0 ≤ n) <;> cases h2 : decide (n ≤ 1000000000000)
  all_goals
    rw [h1, h2] at HE
    go_enter Tryz.func43, Tryz.ntmps43
    go_wp2_with fail
    go_ret
    exact ⟨by rw [HE.out]; rfl, rfl⟩
set_option maxHeartbeats 2000000 in
theorem refGroup_any (a b c : ByteArray) (w : World) (ha : a.size ≤ maxLen) (hb : b.size ≤ maxLen) (hc : c.size ≤ maxLen) : Calls Tryz.prog 42 #[.agg #[.string a, .string b, .string c]] w (Tell (groupB a b c) w) := by
  have C1 : Hid (∀ w, Calls Tryz.prog 40 #[.string a] w (Tell (rightT a) w)) := Lib.hid (fun w => refRight_any a w ha)
  have C2 : Hid (∀ w, Calls Tryz.prog 40 #[.string b] w (Tell (rightT b) w)) := Lib.hid (fun w => refRight_any b w hb)
  have C3 : Hid (∀ w, Calls Tryz.prog 40 #[.string c] w (Tell (rightT c) w)) := Lib.hid (fun w => refRight_any c w hc)
  have D := Lib.hid (GrB.new w a b c)
  have B := Lib.hid ((Below.refl w.heap.size w).alloc (Nat.le_refl _) (Obj.cells #[Value.string a, Value.string b, Value.string c] 24))
  have HE := Lib.hid (show groupB a b c = (rightT a && (rightT b && rightT c)) from rfl)
  clear ha hb hc
  go_enter Tryz.func42, Tryz.ntmps42
  go_wp2_with fail
  refine (C1.out _).mono ?_
  rintro e w1 ⟨rfl, b1⟩
  generalize w.alloc (Obj.cells #[Value.string a, Value.string b, Value.string c] 24) = W at *
  have D1 := Lib.hid (D.out.below b1)
  have B1 := Lib.hid (B.out.trans (b1.mono B.out.size))
  obtain ⟨c0, c1, c2⟩ := D1.out.cells
  clear b1
  cases h1 : rightT a with
  | false =>
    go_wp2_with fail
    go_ret
    exact ⟨by rw [HE.out, h1]; rfl, B1.out⟩
  | true =>
    go_wp2_with fail
    refine (C2.out _).mono ?_
    rintro e w2 ⟨rfl, b2⟩
    have D2 := Lib.hid (D1.out.below b2)
    have B2 := Lib.hid (B1.out.trans (b2.mono B1.out.size))
    clear c0 c1 c2 b2
    obtain ⟨c0, c1, c2⟩ := D2.out.cells
    cases h2 : rightT b with
    | false =>
      go_wp2_with fail
      go_ret
      exact ⟨by rw [HE.out, h1, h2]; rfl, B2.out⟩
    | true =>
      go_wp2_with fail
      refine (C3.out _).mono ?_
      rintro e w3 ⟨rfl, b3⟩
      have B3 := Lib.hid (B2.out.trans (b3.mono B2.out.size))
      clear c0 c1 c2 b3
      go_wp2_with fail
      go_ret
      exact ⟨by rw [HE.out, h1, h2]; rfl, B3.out⟩
end

/- ScArgs: What came in as bytes, as texts, as a group. -/
section
set_option maxRecDepth 100000
open Go.ChangeShapes Go.WideShapes Go.ChangeAt Go.RowKit

theorem laidOut : laidOutB Tryz.prog = true := by kernel_rfl
theorem cells5 : Tryz.prog.cellsOf 5 = 1 := by kernel_rfl
theorem bytes_cells {H : Type} {enc : TypeId × Value → H} {W : World} {fuel : Nat} {cs : List Value} {x : DataW H × List MemPlace}
    (hf : DataW.trod enc Tryz.prog W 0 (fun _ => true) true fuel 40 cs = some x) : ∃ a cap l, cs = [.slice a l.length cap] ∧ BytesP W a cap l ∧ l.length ≤ maxLen := by
  rcases open_ints Tryz.underlying40 Tryz.underlying5 cells5 hf with ⟨rfl, hx⟩ | ⟨a, len, cap, zs, rfl, _, hl, hm, hz, hx, hcell, hws⟩
  · exact ⟨none, 0, [], rfl, BytesP.nil _ _ _, by simp⟩
  · simp only [if_true] at hz
    have hlen : ((zs.take len).map Int.toNat).length = len := by rw [List.length_map, List.length_take]; omega
    have hmm : maxLen = 9223372036854775807 := rfl
    refine ⟨_, cap, (zs.take len).map Int.toNat, by rw [hlen], ⟨by omega, by omega, fun b hb => ?_, fun hne => ?_⟩, by omega⟩
    · obtain ⟨z, hz1, rfl⟩ := List.mem_map.1 hb
      have := bounds_u8 (hws z (List.mem_of_mem_take hz1))
      omega
    have hpos : 0 < len := by
      rcases Nat.eq_zero_or_pos len with h | h
      · subst h; simp at hne
      · exact h
    obtain ⟨b, off, spot⟩ := a
    have hspot : spot = none := by simpa [Addr.add] using World.cell?_spot (hcell 0 (by omega))
    subst hspot
    have hc0 := hcell 0 (by omega)
    refine ⟨b, off, rfl, ?_, fun j x hj => ?_⟩
    · have := World.block_lt_of_cell? W _ hc0
      simpa [Addr.add] using this
    · have hj2 := (List.getElem?_eq_some_iff.1 hj).1
      rw [List.length_map, List.length_take] at hj2
      rw [← Go.WideShapes.add_plain, hcell j (by omega)]
      rw [List.getElem?_map, List.getElem?_take] at hj
      have hjl : j < zs.length := by omega
      rw [if_pos (by omega), List.getElem?_eq_getElem hjl, Option.map_some, Option.some.injEq] at hj
      subst hj
      have := bounds_u8 (hws zs[j] (List.getElem_mem hjl))
      rw [List.getD_eq_getElem?_getD, List.getElem?_eq_getElem hjl]
      simp only [Option.getD_some]
      rw [Int.toNat_of_nonneg this.1]
theorem bytes_of_trod {H : Type} {enc : TypeId × Value → H} {W : World} {base : Nat} {v : Value} {d : DataW H} {p : List MemPlace}
    (hv : Value.okWide Tryz.prog W .any base 40 v) (h : DataW.Trod enc Tryz.prog W 0 (fun _ => true) true 40 v d p) : ∃ a cap l, v = .slice a l.length cap ∧ BytesP W a cap l ∧ l.length ≤ maxLen := by
  obtain ⟨a0, len, cap, rfl⟩ := okWide_slice Tryz.underlying40 hv
  obtain ⟨fuel, hf⟩ := h
  obtain ⟨a, cap', l, e, hB, hl⟩ := bytes_cells hf
  simp [Value.cells] at e
  obtain ⟨rfl, rfl, rfl⟩ := e
  exact ⟨_, _, l, rfl, hB, hl⟩
end

/- SlArgs: Slices of structs that came in. -/
section
set_option maxRecDepth 100000
open Go.ChangeShapes Go.WideShapes Go.ChangeAt Go.RowKit

end
end

/- MgOrders: Orders. -/
section
/- OrPlain: Plain facts on orders: which can be, their bytes, and what bytes are read as; each order's bytes are read as that order, and none but these. -/
section
end

/- OrLeaf: What the small tests of package order, Right of package tally and the document's answer. -/
section
set_option maxRecDepth 100000
open Go.RowKit

end

/- OrRight: What Right of package order, and the document's, answer, at every order. -/
section
set_option maxRecDepth 100000
open Go.RowKit

end

/- OrArgs: What came in as bytes, lines, an order. -/
section
set_option maxRecDepth 100000
open Go.ChangeShapes Go.WideShapes Go.ChangeAt Go.RowKit

end

/- OrRight2: What the document's Right answers, at every order. -/
section
set_option maxRecDepth 100000
open Go.RowKit

/-- A saga in a block. -/
def SgB (w : World) (g : Nat) (o : Od) : Prop := w.heap[g]? = some (.cells #[.int .i64 o.phase, .bool o.given, .int .i64 o.ref] 91 (0, 0))
theorem SgB.cells {w : World} {g : Nat} {o : Od} (h : SgB w g o) : w.cell? ⟨g, 0, none⟩ = some (.int .i64 o.phase) ∧ w.cell? ⟨g, 1, none⟩ = some (.bool o.given) ∧ w.cell? ⟨g, 2, none⟩ = some (.int .i64 o.ref) := by
  unfold SgB at h
  simp [World.cell?, h]
theorem SgB.lt {w : World} {g : Nat} {o : Od} (h : SgB w g o) : g < w.heap.size := (Array.getElem?_eq_some_iff.1 h).1
theorem SgB.below {w w' : World} {g : Nat} {o : Od} (h : SgB w g o) (hb : Below w.heap.size w w') : SgB w' g o := (hb.block g h.lt).trans h

theorem batched_eq (p : Int) : batchedB p = (p == 3 || (p == 4 || (p == 5 || p == 6))) := by
  rw [Bool.eq_iff_iff]
  simp [batchedB]
  omega

set_option maxRecDepth 100000 in
set_option maxHeartbeats 4000000 in
theorem refORight_any (a : Option Addr) (cap : Nat) (o : Od) (w : World) (h : OdP w a cap o) : Calls Tryz.prog 58 #[odV a cap o] w (Tell (rightO o) w) := by
  have C1 : Hid (∀ w, Calls Tryz.prog 40 #[.string o.id] w (Tell (rightT o.id) w)) := Lib.hid (fun w => refRight_any o.id w h.id)
  have C2 := Lib.hid (fun w => refGroup_any o.car o.zone o.serv w h.car h.zone h.serv)
  have C3 := Lib.hid (fun W hW => refRight15_any a cap o.ls W hW h.len)
  have C4 := Lib.hid (fun w => refTally_any o.total w)
  have C5 := Lib.hid (fun w => refTally_any o.batch w)
  have D0 := Lib.hid (OdB.new w a cap o)
  have B0 := Lib.hid ((Below.refl w.heap.size w).alloc (Nat.le_refl _) (Obj.cells (odC a cap o) 93))
  have L0 := Lib.hid (h.lns.below B0.out)
  have HE := Lib.hid (show rightO o = (rightT o.id && groupB o.car o.zone o.serv && rightLB o.ls && tallyB o.total && sagaB o.phase o.ref && tallyB o.batch && (decide (o.batch ≠ 0) == batchedB o.phase)) from rfl)
  have HS : Hid (sagaB o.phase o.ref = (!(decide (o.phase < 1) || decide (12 < o.phase)) && !(decide (o.ref < 0) || decide (1000000 < o.ref)))) := Lib.hid (by rw [Bool.eq_iff_iff]; simp [sagaB, phaseB])
  have HB := Lib.hid (batched_eq o.phase)
  have HN : Hid (tallyB o.batch = true → decide (0 < o.batch) = decide (o.batch ≠ 0)) := Lib.hid (by intro ht; simp only [tallyB, decide_eq_true_eq] at ht; rw [Bool.eq_iff_iff]; simp; omega)
  clear h
  unfold odV
  unfold odC at *
  go_enter Tryz.func58, Tryz.ntmps58
  go_wp2_with fail
  have hz : (w.alloc (Obj.cells #[Value.string o.id, Value.slice a o.ls.length cap, Value.string o.car, Value.string o.zone, Value.string o.serv, Value.int IntKind.i64 o.total, Value.int IntKind.i64 o.phase, Value.bool o.given, Value.int IntKind.i64 o.ref, Value.int IntKind.i64 o.batch] 93)).heap.size = w.heap.size + 1 := by simp
  generalize w.alloc (Obj.cells #[Value.string o.id, Value.slice a o.ls.length cap, Value.string o.car, Value.string o.zone, Value.string o.serv, Value.int IntKind.i64 o.total, Value.int IntKind.i64 o.phase, Value.bool o.given, Value.int IntKind.i64 o.ref, Value.int IntKind.i64 o.batch] 93) = W at *
  have DS : Hid (SgB (W.alloc (Obj.cells #[Value.int IntKind.i64 o.phase, Value.bool o.given, Value.int IntKind.i64 o.ref] 91)) (w.heap.size + 1) o) := Lib.hid (by rw [← hz]; exact heap_alloc_new W _)
  have BS := Lib.hid ((Below.refl W.heap.size W).alloc (Nat.le_refl _) (Obj.cells #[Value.int IntKind.i64 o.phase, Value.bool o.given, Value.int IntKind.i64 o.ref] 91))
  have D := Lib.hid (D0.out.below BS.out)
  have B := Lib.hid (B0.out.trans (BS.out.mono B0.out.size))
  have L := Lib.hid (L0.out.below BS.out)
  clear hz
  obtain ⟨⟨c0, c1, c2, c3, c4⟩, c5, c6, c7, c8, c9⟩ := OdB.cells (o := o) D0.out
  go_wp2_with fail
  generalize W.alloc (Obj.cells #[Value.int IntKind.i64 o.phase, Value.bool o.given, Value.int IntKind.i64 o.ref] 91) = W1 at *
  refine (C1.out _).mono ?_
  rintro e w1 ⟨rfl, b1⟩
  have D1 := Lib.hid (D.out.below b1)
  have DS1 := Lib.hid (DS.out.below b1)
  have B1 := Lib.hid (B.out.trans (b1.mono B.out.size))
  have L1 := Lib.hid (L.out.below b1)
  clear c0 c1 c2 c3 c4 c5 c6 c7 c8 c9 b1
  obtain ⟨⟨c0, c1, c2, c3, c4⟩, c5, c6, c7, c8, c9⟩ := OdB.cells (o := o) D1.out
  cases h1 : rightT o.id with
  | false =>
    go_wp2_with fail
    go_ret
    exact ⟨by rw [HE.out, h1]; simp, B1.out⟩
  | true =>
    go_wp2_with fail
    refine (C2.out _).mono ?_
    rintro e w2 ⟨rfl, b2⟩
    have D2 := Lib.hid (D1.out.below b2)
    have DS2 := Lib.hid (DS1.out.below b2)
    have B2 := Lib.hid (B1.out.trans (b2.mono B1.out.size))
    have L2 := Lib.hid (L1.out.below b2)
    clear c0 c1 c2 c3 c4 c5 c6 c7 c8 c9 b2
    obtain ⟨⟨c0, c1, c2, c3, c4⟩, c5, c6, c7, c8, c9⟩ := OdB.cells (o := o) D2.out
    cases h2 : groupB o.car o.zone o.serv with
    | false =>
      go_wp2_with fail
      go_ret
      exact ⟨by rw [HE.out, h1, h2]; simp, B2.out⟩
    | true =>
      go_wp2_with fail
      refine (C3.out _ L2.out).mono ?_
      rintro e w3 ⟨rfl, b3⟩
      have D3 := Lib.hid (D2.out.below b3)
      have DS3 := Lib.hid (DS2.out.below b3)
      have B3 := Lib.hid (B2.out.trans (b3.mono B2.out.size))
      have L3 := Lib.hid (L2.out.below b3)
      clear c0 c1 c2 c3 c4 c5 c6 c7 c8 c9 b3
      obtain ⟨⟨c0, c1, c2, c3, c4⟩, c5, c6, c7, c8, c9⟩ := OdB.cells (o := o) D3.out
      cases h3 : rightLB o.ls with
      | false =>
        go_wp2_with fail
        go_ret
        exact ⟨by rw [HE.out, h1, h2, h3]; simp, B3.out⟩
      | true =>
        go_wp2_with fail
        refine (C4.out _).mono ?_
        rintro e w' ⟨rfl, rfl⟩
        cases h4 : tallyB o.total with
        | false =>
          go_wp2_with fail
          go_ret
          exact ⟨by rw [HE.out, h1, h2, h3, h4]; simp, B3.out⟩
        | true =>
          go_wp2_with fail
          refine (C5.out _).mono ?_
          rintro e w' ⟨rfl, rfl⟩
          cases h5 : tallyB o.batch with
          | false =>
            go_wp2_with fail
            go_ret
            exact ⟨by rw [HE.out, h1, h2, h3, h4, h5]; simp, B3.out⟩
          | true =>
            obtain ⟨s0, s1, s2⟩ := SgB.cells (o := o) DS3.out
            cases t1 : decide (o.phase < 1) with
            | true =>
              go_wp2_with fail
              go_ret
              exact ⟨by rw [HE.out, HS.out, h1, h2, h3, h4, h5, t1]; simp, B3.out⟩
            | false =>
              cases t2 : decide (12 < o.phase) with
              | true =>
                go_wp2_with fail
                go_ret
                exact ⟨by rw [HE.out, HS.out, h1, h2, h3, h4, h5, t1, t2]; simp, B3.out⟩
              | false =>
                cases t3 : decide (o.ref < 0) with
                | true =>
                  go_wp2_with fail
                  go_ret
                  exact ⟨by rw [HE.out, HS.out, h1, h2, h3, h4, h5, t1, t2, t3]; simp, B3.out⟩
                | false =>
                  cases t4 : decide (1000000 < o.ref) with
                  | true =>
                    go_wp2_with fail
                    go_ret
                    exact ⟨by rw [HE.out, HS.out, h1, h2, h3, h4, h5, t1, t2, t3, t4]; simp, B3.out⟩
                  | false =>
                    have HN := Lib.hid (HN.out h5)
                    cases q3 : (o.phase == 3) with
                    | true =>
                      go_wp2_with fail
                      go_ret
                      exact ⟨by rw [HE.out, HS.out, HB.out, ← HN.out, h1, h2, h3, h4, h5, t1, t2, t3, t4, q3]; cases decide (0 < o.batch) <;> rfl, B3.out⟩
                    | false =>
                      cases q4 : (o.phase == 4) with
                      | true =>
                        go_wp2_with fail
                        go_ret
                        exact ⟨by rw [HE.out, HS.out, HB.out, ← HN.out, h1, h2, h3, h4, h5, t1, t2, t3, t4, q3, q4]; cases decide (0 < o.batch) <;> rfl, B3.out⟩
                      | false =>
                        cases q5 : (o.phase == 5) with
                        | true =>
                          go_wp2_with fail
                          go_ret
                          exact ⟨by rw [HE.out, HS.out, HB.out, ← HN.out, h1, h2, h3, h4, h5, t1, t2, t3, t4, q3, q4, q5]; cases decide (0 < o.batch) <;> rfl, B3.out⟩
                        | false =>
                          cases q6 : (o.phase == 6) with
                          | true =>
                            go_wp2_with fail
                            go_ret
                            exact ⟨by rw [HE.out, HS.out, HB.out, ← HN.out, h1, h2, h3, h4, h5, t1, t2, t3, t4, q3, q4, q5, q6]; cases decide (0 < o.batch) <;> rfl, B3.out⟩
                          | false =>
                            go_wp2_with fail
                            go_ret
                            exact ⟨by rw [HE.out, HS.out, HB.out, ← HN.out, h1, h2, h3, h4, h5, t1, t2, t3, t4, q3, q4, q5, q6]; cases decide (0 < o.batch) <;> rfl, B3.out⟩
end

/- OrSame: What Same of package order, and the document's, answer, at any two orders. -/
section
set_option maxRecDepth 100000
open Go.RowKit

set_option maxHeartbeats 2000000 in
theorem refSame_any (a1 a2 : Option Addr) (c1 c2 : Nat) (l m : List Ln) (w : World) (h1 : LnsP w a1 c1 l) (h2 : LnsP w a2 c2 m) (hl : l.length ≤ maxLen) (_hm : m.length ≤ maxLen) :
    Calls Tryz.prog 45 #[.slice a1 l.length c1, .slice a2 m.length c2] w (Tell (sameL l m) w) := by
  have H1 := Lib.hid h1
  have H2 := Lib.hid h2
  clear h1 h2
  unfold maxLen at hl
  by_cases hq : l.length = m.length
  rotate_left
  · have HE := Lib.hid (show sameL l m = false from sameL_len hq)
    go_enter Tryz.func45, Tryz.ntmps45
    go_wp2_with fail
    go_ret
    exact ⟨by rw [HE.out]; rfl, Below.refl _ _⟩
  · have HQ := Lib.hid hq
    rw [← hq]
    clear hq
    go_enter Tryz.func45, Tryz.ntmps45
    go_wp2_with fail
    go_loopw [13] (fun i wr => ∃ k : Nat, k ≤ l.length ∧ i = .int .i64 k ∧ Hid (sameL l m = sameL (l.drop k) (m.drop k)) ∧ Below w.heap.size w wr) (fun i _ => l.length - (intOf i).toNat)
    case atStart => exact ⟨0, Nat.zero_le _, rfl, rfl, Below.refl _ _⟩
    case round =>
      obtain ⟨k, hk, rfl, HK, hbw⟩ := hrel
      by_cases hlt : k < l.length
      · have hltm : k < m.length := by rw [← HQ.out]; exact hlt
        obtain ⟨b1, o1, rfl, q1, r1, r2, r3, _⟩ := (H1.out.below hbw).at k hlt
        obtain ⟨b2, o2, rfl, q2, s1, s2, s3, _⟩ := (H2.out.below hbw).at k hltm
        have p1 := H1.out.cap
        have p2 := H2.out.cap
        rw [← HQ.out] at p2
        have hn := neq_ln l[k] m[k]
        have HS := Lib.hid (sameL_step l m k hlt hltm)
        unfold lnEq at HS
        generalize l[k] = x at *
        generalize m[k] = y at *
        cases hb : ((x.sku.toList == y.sku.toList) && ((x.qty == y.qty) && (x.wt == y.wt))) with
        | true =>
          rw [hb] at HS hn
          have HE := Lib.hid (show sameL l m = sameL (l.drop (k + 1)) (m.drop (k + 1)) by rw [HK.out, HS.out]; rfl)
          clear hb
          go_wp2_with fail
          go_quiet (fail)
          go_wp2_with fail
          go_roundw
          case rel => exact ⟨k + 1, by omega, by go_num, HE, below_drewN hbw _⟩
          case measure => simp [intOf]; omega
        | false =>
          rw [hb] at HS hn
          have HE := Lib.hid (show sameL l m = false by rw [HK.out, HS.out]; rfl)
          clear hb
          go_wp2_with fail
          go_quiet (fail)
          go_wp2_with fail
          go_ret
          exact ⟨by rw [HE.out]; rfl, below_drewN hbw _⟩
      · have HE := Lib.hid (show sameL l m = true by rw [HK.out, List.drop_eq_nil_of_le (by omega), List.drop_eq_nil_of_le (by rw [← HQ.out]; omega)]; rfl)
        go_wp2_with fail
        go_ret
        exact ⟨by rw [HE.out]; rfl, hbw⟩


set_option maxRecDepth 100000 in
set_option maxHeartbeats 4000000 in
theorem refOSame_any (a1 a2 : Option Addr) (c1 c2 : Nat) (x y : Od) (w : World) (h1 : OdP w a1 c1 x) (h2 : OdP w a2 c2 y) : Calls Tryz.prog 73 #[odV a1 c1 x, odV a2 c2 y] w (Tell (sameO x y) w) := by
  have D0 := Lib.hid (OdB.new w a1 c1 x)
  have D2 := Lib.hid (OdB.new (w.alloc (.cells (odC a1 c1 x) 93)) a2 c2 y)
  have hz : (w.alloc (.cells (odC a1 c1 x) 93)).heap.size = w.heap.size + 1 := by simp
  have D1 := Lib.hid (D0.out.below ((Below.refl _ _).alloc (Nat.le_refl _) (.cells (odC a2 c2 y) 93)))
  have B := Lib.hid (((Below.refl w.heap.size w).alloc (Nat.le_refl _) (Obj.cells (odC a1 c1 x) 93)).alloc (by simp) (Obj.cells (odC a2 c2 y) 93))
  have L1 := Lib.hid (h1.lns.below B.out)
  have L2 := Lib.hid (h2.lns.below B.out)
  rw [hz] at D2
  have C := Lib.hid (fun W k1 k2 => refSame_any a1 a2 c1 c2 x.ls y.ls W k1 k2 h1.len h2.len)
  have HG := Lib.hid (eq_gr x.car x.zone x.serv y.car y.zone y.serv)
  have HQ := Lib.hid (eq_sg x.phase x.ref y.phase y.ref x.given y.given)
  have HE := Lib.hid (show sameO x y = ((x.id.toList == y.id.toList) && sameL x.ls y.ls && grEq x.car x.zone x.serv y.car y.zone y.serv && (x.total == y.total) && sgEq x.phase x.ref y.phase y.ref x.given y.given && (x.batch == y.batch)) from rfl)
  clear h1 h2 hz D0
  unfold odV
  unfold odC at *
  have hg := HG.out
  have hs := HQ.out
  cases h1 : (x.id.toList == y.id.toList) with
  | false =>
    go_enter Tryz.func73, Tryz.ntmps73
    go_wp2_with fail
    go_ret
    exact ⟨by rw [HE.out, h1]; simp, B.out⟩
  | true =>
    go_enter Tryz.func73, Tryz.ntmps73
    go_wp2_with fail
    generalize (w.alloc (Obj.cells #[Value.string x.id, Value.slice a1 x.ls.length c1, Value.string x.car, Value.string x.zone, Value.string x.serv, Value.int IntKind.i64 x.total, Value.int IntKind.i64 x.phase, Value.bool x.given, Value.int IntKind.i64 x.ref, Value.int IntKind.i64 x.batch] 93)).alloc (Obj.cells #[Value.string y.id, Value.slice a2 y.ls.length c2, Value.string y.car, Value.string y.zone, Value.string y.serv, Value.int IntKind.i64 y.total, Value.int IntKind.i64 y.phase, Value.bool y.given, Value.int IntKind.i64 y.ref, Value.int IntKind.i64 y.batch] 93) = W at *
    refine (C.out _ L1.out L2.out).mono ?_
    rintro e w1 ⟨rfl, b1⟩
    have E1 := Lib.hid (D1.out.below b1)
    have E2 := Lib.hid (D2.out.below b1)
    have B1 := Lib.hid (B.out.trans (b1.mono B.out.size))
    clear b1
    obtain ⟨⟨c0, c1, c2, c3, c4⟩, c5, c6, c7, c8, c9⟩ := OdB.cells (o := x) E1.out
    obtain ⟨⟨d0, d1, d2, d3, d4⟩, d5, d6, d7, d8, d9⟩ := OdB.cells (o := y) E2.out
    cases h2 : sameL x.ls y.ls with
    | false =>
      go_wp2_with fail
      go_ret
      exact ⟨by rw [HE.out, h1, h2]; simp, B1.out⟩
    | true =>
      cases h3 : grEq x.car x.zone x.serv y.car y.zone y.serv with
      | false =>
        rw [h3] at hg
        go_wp2_with fail
        go_ret
        exact ⟨by rw [HE.out, h1, h2, h3]; simp, B1.out⟩
      | true =>
        rw [h3] at hg
        cases h4 : (x.total == y.total) with
        | false =>
          go_wp2_with fail
          go_ret
          exact ⟨by rw [HE.out, h1, h2, h3, h4]; simp, B1.out⟩
        | true =>
          cases h5 : sgEq x.phase x.ref y.phase y.ref x.given y.given with
          | false =>
            rw [h5] at hs
            go_wp2_with fail
            go_ret
            exact ⟨by rw [HE.out, h1, h2, h3, h4, h5]; simp, B1.out⟩
          | true =>
            rw [h5] at hs
            cases h6 : (x.batch == y.batch) with
            | false =>
              go_wp2_with fail
              go_ret
              exact ⟨by rw [HE.out, h1, h2, h3, h4, h5, h6]; simp, B1.out⟩
            | true =>
              go_wp2_with fail
              go_ret
              exact ⟨by rw [HE.out, h1, h2, h3, h4, h5, h6]; simp, B1.out⟩
end
end

/- MgBatches: Batches. -/
section
/- TkPlain: Ticks, and numbers above nought. -/
section
end

/- TlSum: Sums and differences of tallies: what Sum of two, Add and Less of package tally answer. -/
section
set_option maxRecDepth 100000
open Go.RowKit

end

/- BtPlain: Plain facts on batches: which can be, who joins and is evicted, their bytes, and what bytes are read as. -/
section
end

/- BtLeaf: What the small tests of package batch, and the document's, answer: texts among texts, texts in a row, numbers, groups, members, caps. -/
section
set_option maxRecDepth 100000
open Go.RowKit

set_option maxHeartbeats 1000000 in
theorem refTick_any (n : Int) (w : World) : Calls Tryz.prog 57 #[.int .i64 n] w (BoolSame (tickB n) w) := by
  have HE := Lib.hid (show tickB n = (decide (0 ≤ n) && decide (n ≤ 1099511627776)) by rw [Bool.eq_iff_iff]; simp [tickB])
  cases h1 : decide (0 ≤ n) <;> cases h2 : decide (n ≤ 1099511627776)
  all_goals
    rw [h1, h2] at HE
    go_enter Tryz.func57, Tryz.ntmps57
    go_wp2_with fail
    go_ret
    exact ⟨by rw [HE.out]; rfl, rfl⟩

set_option maxHeartbeats 1000000 in
theorem refCaps_any (c : Cp) (w : World) : Calls Tryz.prog 55 #[cpV c] w (Tell (capsB c) w) := by
  have HE := Lib.hid (show capsB c = (decide (1 ≤ c.count) && (decide (c.count ≤ 64) && (decide (1 ≤ c.wt) && decide (c.wt ≤ 1000000000000)))) by rw [Bool.eq_iff_iff]; simp [capsB, aboveB, and_assoc])
  unfold cpV
  generalize c.count = n at *
  generalize c.wt = t at *
  cases h1 : decide (1 ≤ n) <;> cases h2 : decide (n ≤ 64) <;> cases h3 : decide (1 ≤ t) <;> cases h4 : decide (t ≤ 1000000000000)
  all_goals
    rw [h1, h2, h3, h4] at HE
    go_enter Tryz.func55, Tryz.ntmps55
    go_wp2_with fail
    go_ret
    exact ⟨by rw [HE.out]; rfl, (Below.refl _ w).alloc (Nat.le_refl _) _⟩
end

/- BtMem: A batch in memory; what isGroup, areMembers and Right of package batch answer. -/
section
set_option maxRecDepth 100000
open Go.RowKit

end

/- BtRight: What Right of package batch, and the document's, answer, at every batch. -/
section
set_option maxRecDepth 100000
open Go.RowKit

end

/- BtRight2: What the document's Right of batches answers, at every batch. -/
section
set_option maxRecDepth 100000
open Go.RowKit

theorem right_doc (b : Bt) : rightBt b = (!decide (b.id < 1) && (!decide (1000000000000 < b.id) && (tallyB b.wt && (tickB b.born && (!decide (64 < (b.mem.length : Int)) && ((!((b.kind != 1) && (b.kind != 2))) && (!decide (b.phase < 1) && (!decide (3 < b.phase) && (groupB b.car b.zone b.serv && goodM [] b.mem))))))))) := by
  rw [Bool.eq_iff_iff]
  simp only [rightBt, membersB, kindB, btPhaseB, aboveB, Bool.and_eq_true, decide_eq_true_eq, Bool.not_eq_true', Bool.and_eq_false_iff, decide_eq_false_iff_not, bne_eq_false_iff_eq, Int.not_lt]
  constructor
  · rintro ⟨⟨h1, h2⟩, h3, h4, h5, ⟨h6, h7⟩, h8, h9, h10⟩
    exact ⟨h1, h2, h3, h4, by omega, h5, h6, h7, h8, h10⟩
  · rintro ⟨h1, h2, h3, h4, h5, h6, h7, h8, h9, h10⟩
    exact ⟨⟨h1, h2⟩, h3, h4, h6, ⟨h7, h8⟩, h9, by omega, h10⟩

theorem hasT_take (l : List ByteArray) (x : ByteArray) {j : Nat} (h : j < l.length) (hn : hasT (l.take j) x = false) (hx : (l[j].toList == x.toList) = false) : hasT (l.take (j + 1)) x = false := by
  rw [hasT_no] at hn ⊢
  rw [List.take_succ_eq_append_getElem h, List.mem_append, List.mem_singleton, not_or]
  refine ⟨hn, fun e => ?_⟩
  rw [str_eq e.symm] at hx
  cases hx
theorem hasT_found (l : List ByteArray) (x : ByteArray) {j k : Nat} (h : j < l.length) (hk : j < k) (hx : (l[j].toList == x.toList) = true) : hasT (l.take k) x = true := by
  rw [hasT_iff, List.mem_take_iff_getElem]
  exact ⟨j, by omega, (toList_iff _ _).1 hx⟩

set_option maxHeartbeats 8000000 in
theorem refBtRight_any (a : Option Addr) (cap : Nat) (b : Bt) (w : World) (h : BtP w a cap b) : Calls Tryz.prog 111 #[btV a cap b] w (Tell (rightBt b) w) := by
  have C2 := Lib.hid (fun w => refTally_any b.wt w)
  have C3 := Lib.hid (fun w => refTick_any b.born w)
  have C4 := Lib.hid (fun w => refGroup_any b.car b.zone b.serv w h.car h.zone h.serv)
  have D := Lib.hid (BtB.new w a cap b)
  have B := Lib.hid ((Below.refl w.heap.size w).alloc (Nat.le_refl _) (Obj.cells (btC a cap b) 98))
  have L := Lib.hid (h.mem.below B.out)
  have HF := Lib.hid h.fit
  have hl := h.mem.len
  have hcp := h.mem.cap
  have HE := Lib.hid (right_doc b)
  clear h
  unfold btV
  unfold btC at *
  go_enter Tryz.func111, Tryz.ntmps111
  cases a1 : decide (b.id < 1) with
  | true =>
    go_wp2_with fail
    go_ret
    exact ⟨by rw [HE.out, a1]; rfl, B.out⟩
  | false =>
    cases a2 : decide (1000000000000 < b.id) with
    | true =>
      go_wp2_with fail
      go_ret
      exact ⟨by rw [HE.out, a1, a2]; rfl, B.out⟩
    | false =>
      go_wp2_with fail
      generalize w.alloc (Obj.cells #[Value.int IntKind.i64 b.id, Value.int IntKind.i64 b.wt, Value.int IntKind.i64 b.born, Value.int IntKind.i64 b.kind, Value.int IntKind.i64 b.phase, Value.string b.car, Value.string b.zone, Value.string b.serv, Value.slice a b.mem.length cap] 98) = W at *
      obtain ⟨⟨c0, c1, c2, c3, c4⟩, c5, c6, c7, c8⟩ := BtB.cells (b := b) D.out
      refine (C2.out _).mono ?_
      rintro e w1 ⟨rfl, rfl⟩
      cases h2 : tallyB b.wt with
      | false =>
        go_wp2_with fail
        go_ret
        exact ⟨by rw [HE.out, a1, a2, h2]; rfl, B.out⟩
      | true =>
        go_wp2_with fail
        refine (C3.out _).mono ?_
        rintro e w1 ⟨rfl, rfl⟩
        cases h3 : tickB b.born with
        | false =>
          go_wp2_with fail
          go_ret
          exact ⟨by rw [HE.out, a1, a2, h2, h3]; rfl, B.out⟩
        | true =>
          cases h5 : decide (64 < (b.mem.length : Int)) with
          | true =>
            go_wp2_with fail
            go_ret
            exact ⟨by rw [HE.out, a1, a2, h2, h3, h5]; rfl, B.out⟩
          | false =>
            cases hk : ((b.kind != 1) && (b.kind != 2)) with
            | true =>
              have hk2 := hk
              rw [Bool.and_eq_true] at hk2
              obtain ⟨ka, kb⟩ := hk2
              go_wp2_with fail
              go_ret
              exact ⟨by rw [HE.out, a1, a2, h2, h3, h5, hk]; rfl, B.out⟩
            | false =>
              cases ka : (b.kind != 1) with
              | true =>
                have kb : (b.kind != 2) = false := by rw [ka] at hk; exact hk
                cases p1 : decide (b.phase < 1) with
                | true =>
                  go_wp2_with fail
                  go_ret
                  exact ⟨by rw [HE.out, a1, a2, h2, h3, h5, hk, p1]; rfl, B.out⟩
                | false =>
                  cases p2 : decide (3 < b.phase) with
                  | true =>
                    go_wp2_with fail
                    go_ret
                    exact ⟨by rw [HE.out, a1, a2, h2, h3, h5, hk, p1, p2]; rfl, B.out⟩
                  | false =>
                    go_wp2_with fail
                    refine (C4.out _).mono ?_
                    rintro e w1 ⟨rfl, b1⟩
                    have D1 := Lib.hid (BtB.below (b := b) D.out b1)
                    have B1 := Lib.hid (B.out.trans (b1.mono B.out.size))
                    have L1 := Lib.hid (L.out.below b1)
                    obtain ⟨⟨d0, d1, d2, d3, d4⟩, d5, d6, d7, d8⟩ := BtB.cells (b := b) D1.out
                    clear b1 c0 c1 c2 c3 c4 c5 c6 c7 c8
                    cases h4 : groupB b.car b.zone b.serv with
                    | false =>
                      go_wp2_with fail
                      go_ret
                      exact ⟨by rw [HE.out, a1, a2, h2, h3, h5, hk, p1, p2, h4]; rfl, B1.out⟩
                    | true =>
                      have HM := Lib.hid (show rightBt b = goodM [] b.mem by rw [HE.out, a1, a2, h2, h3, h5, hk, p1, p2, h4]; rfl)
                      clear HE
                      clear L D B
                      have L := L1
                      have D := D1
                      have B := B1
                      clear L1 D1 B1
                      have BW := Lib.hid (Below.refl w1.heap.size w1)
                      have hsz0 := BtB.lt (b := b) D.out
                      clear d0 d1 d2 d3 d4 d5 d6 d7
                      go_wp2_with fail
                      go_loopw [59] (fun i wr => ∃ k : Nat, k ≤ b.mem.length ∧ i = .int .i64 k ∧ Hid (rightBt b = goodM (b.mem.take k) (b.mem.drop k)) ∧ Hid (Below w1.heap.size w1 wr)) (fun i _ => b.mem.length - (intOf i).toNat)
                      case atStart => exact ⟨0, Nat.zero_le _, rfl, HM, BW⟩
                      case round =>
                        obtain ⟨k, hk', rfl, HK, HW⟩ := hrel
                        by_cases hlt : k < b.mem.length
                        · have HP := Lib.hid (L.out.below HW.out)
                          have DW := Lib.hid (BtB.below (b := b) D.out HW.out)
                          obtain ⟨bb, oo, ha, q1, g1⟩ := HP.out.at k hlt
                          subst ha
                          have HS := Lib.hid (goodM_step b.mem k hlt)
                          have hsz := HF.out b.mem[k] (List.getElem_mem hlt)
                          have C := Lib.hid (fun w => show Calls Tryz.prog 40 #[.string b.mem[k]] w (Tell (rightT b.mem[k]) w) from refRight_any b.mem[k] w hsz)
                          clear hsz
                          generalize b.mem[k] = x at *
                          cases hr : rightT x with
                          | false =>
                            rw [hr] at C
                            have HE := Lib.hid (show rightBt b = false by rw [HK.out, HS.out, hr]; rfl)
                            go_wp2_with fail
                            refine (C.out _).mono ?_
                            rintro e w2 ⟨rfl, b2⟩
                            go_wp2_with fail
                            go_ret
                            exact ⟨by rw [HE.out]; rfl, B.out.trans ((HW.out.trans (b2.mono HW.out.size)).mono B.out.size)⟩
                          | true =>
                            rw [hr] at C
                            go_wp2_with fail
                            refine (C.out _).mono ?_
                            rintro e w2 ⟨rfl, b2⟩
                            have HW2 := Lib.hid (HW.out.trans (b2.mono HW.out.size))
                            have HP2 := Lib.hid (HP.out.below b2)
                            have DW2 := Lib.hid (BtB.below (b := b) DW.out b2)
                            clear b2 g1 q1
                            go_wp2_with fail
                            go_loopw [5] (fun i wr => ∃ j : Nat, j ≤ k ∧ i = .int .i64 j ∧ wr = w2 ∧ Hid (hasT (b.mem.take j) x = false)) (fun i _ => k - (intOf i).toNat)
                            case atStart => exact ⟨0, Nat.zero_le _, rfl, rfl, Lib.hid rfl⟩
                            case round =>
                              obtain ⟨j, hj, rfl, rfl, HJ⟩ := hrel
                              by_cases hjk : j < k
                              · obtain ⟨b3, o3, e3, q3, g3⟩ := HP2.out.at j (by omega)
                                injection e3 with e3
                                injection e3 with e3 e4
                                subst e3 e4
                                obtain ⟨_, _, _, _, d8⟩ := BtB.cells (b := b) DW2.out
                                have hjl : j < b.mem.length := by omega
                                have HT := Lib.hid (fun e => hasT_take b.mem x hjl HJ.out e)
                                have HU := Lib.hid (fun e => hasT_found b.mem x hjl hjk e)
                                generalize b.mem[j] = y at *
                                cases hy : (y.toList == x.toList) with
                                | true =>
                                  have HE := Lib.hid (show rightBt b = false by rw [HK.out, HS.out, hr, HU.out hy]; rfl)
                                  go_wp2_with fail
                                  go_ret
                                  exact ⟨by rw [HE.out]; rfl, B.out.trans (HW2.out.mono B.out.size)⟩
                                | false =>
                                  have HN := Lib.hid (HT.out hy)
                                  go_wp2_with fail
                                  go_roundw
                                  case rel => exact ⟨j + 1, by omega, by go_num, by trivial, HN⟩
                                  case measure => simp [intOf]; omega
                              · obtain rfl : j = k := by omega
                                have HE := Lib.hid (show rightBt b = goodM (b.mem.take (j + 1)) (b.mem.drop (j + 1)) by rw [HK.out, HS.out, hr, HJ.out]; rfl)
                                go_wp2_with fail
                                go_roundw
                                case rel => exact ⟨j + 1, by omega, by go_num, HE, HW2⟩
                                case measure => simp [intOf]; omega
                        · have HE := Lib.hid (show rightBt b = true by rw [HK.out, List.drop_eq_nil_of_le (by omega)]; rfl)
                          go_wp2_with fail
                          go_ret
                          exact ⟨by rw [HE.out]; rfl, B.out.trans (HW.out.mono B.out.size)⟩
              | false =>
                cases p1 : decide (b.phase < 1) with
                | true =>
                  go_wp2_with fail
                  go_ret
                  exact ⟨by rw [HE.out, a1, a2, h2, h3, h5, hk, p1]; rfl, B.out⟩
                | false =>
                  cases p2 : decide (3 < b.phase) with
                  | true =>
                    go_wp2_with fail
                    go_ret
                    exact ⟨by rw [HE.out, a1, a2, h2, h3, h5, hk, p1, p2]; rfl, B.out⟩
                  | false =>
                    go_wp2_with fail
                    refine (C4.out _).mono ?_
                    rintro e w1 ⟨rfl, b1⟩
                    have D1 := Lib.hid (BtB.below (b := b) D.out b1)
                    have B1 := Lib.hid (B.out.trans (b1.mono B.out.size))
                    have L1 := Lib.hid (L.out.below b1)
                    obtain ⟨⟨d0, d1, d2, d3, d4⟩, d5, d6, d7, d8⟩ := BtB.cells (b := b) D1.out
                    clear b1 c0 c1 c2 c3 c4 c5 c6 c7 c8
                    cases h4 : groupB b.car b.zone b.serv with
                    | false =>
                      go_wp2_with fail
                      go_ret
                      exact ⟨by rw [HE.out, a1, a2, h2, h3, h5, hk, p1, p2, h4]; rfl, B1.out⟩
                    | true =>
                      have HM := Lib.hid (show rightBt b = goodM [] b.mem by rw [HE.out, a1, a2, h2, h3, h5, hk, p1, p2, h4]; rfl)
                      clear HE
                      clear L D B
                      have L := L1
                      have D := D1
                      have B := B1
                      clear L1 D1 B1
                      have BW := Lib.hid (Below.refl w1.heap.size w1)
                      have hsz0 := BtB.lt (b := b) D.out
                      clear d0 d1 d2 d3 d4 d5 d6 d7
                      go_wp2_with fail
                      go_loopw [59] (fun i wr => ∃ k : Nat, k ≤ b.mem.length ∧ i = .int .i64 k ∧ Hid (rightBt b = goodM (b.mem.take k) (b.mem.drop k)) ∧ Hid (Below w1.heap.size w1 wr)) (fun i _ => b.mem.length - (intOf i).toNat)
                      case atStart => exact ⟨0, Nat.zero_le _, rfl, HM, BW⟩
                      case round =>
                        obtain ⟨k, hk', rfl, HK, HW⟩ := hrel
                        by_cases hlt : k < b.mem.length
                        · have HP := Lib.hid (L.out.below HW.out)
                          have DW := Lib.hid (BtB.below (b := b) D.out HW.out)
                          obtain ⟨bb, oo, ha, q1, g1⟩ := HP.out.at k hlt
                          subst ha
                          have HS := Lib.hid (goodM_step b.mem k hlt)
                          have hsz := HF.out b.mem[k] (List.getElem_mem hlt)
                          have C := Lib.hid (fun w => show Calls Tryz.prog 40 #[.string b.mem[k]] w (Tell (rightT b.mem[k]) w) from refRight_any b.mem[k] w hsz)
                          clear hsz
                          generalize b.mem[k] = x at *
                          cases hr : rightT x with
                          | false =>
                            rw [hr] at C
                            have HE := Lib.hid (show rightBt b = false by rw [HK.out, HS.out, hr]; rfl)
                            go_wp2_with fail
                            refine (C.out _).mono ?_
                            rintro e w2 ⟨rfl, b2⟩
                            go_wp2_with fail
                            go_ret
                            exact ⟨by rw [HE.out]; rfl, B.out.trans ((HW.out.trans (b2.mono HW.out.size)).mono B.out.size)⟩
                          | true =>
                            rw [hr] at C
                            go_wp2_with fail
                            refine (C.out _).mono ?_
                            rintro e w2 ⟨rfl, b2⟩
                            have HW2 := Lib.hid (HW.out.trans (b2.mono HW.out.size))
                            have HP2 := Lib.hid (HP.out.below b2)
                            have DW2 := Lib.hid (BtB.below (b := b) DW.out b2)
                            clear b2 g1 q1
                            go_wp2_with fail
                            go_loopw [5] (fun i wr => ∃ j : Nat, j ≤ k ∧ i = .int .i64 j ∧ wr = w2 ∧ Hid (hasT (b.mem.take j) x = false)) (fun i _ => k - (intOf i).toNat)
                            case atStart => exact ⟨0, Nat.zero_le _, rfl, rfl, Lib.hid rfl⟩
                            case round =>
                              obtain ⟨j, hj, rfl, rfl, HJ⟩ := hrel
                              by_cases hjk : j < k
                              · obtain ⟨b3, o3, e3, q3, g3⟩ := HP2.out.at j (by omega)
                                injection e3 with e3
                                injection e3 with e3 e4
                                subst e3 e4
                                obtain ⟨_, _, _, _, d8⟩ := BtB.cells (b := b) DW2.out
                                have hjl : j < b.mem.length := by omega
                                have HT := Lib.hid (fun e => hasT_take b.mem x hjl HJ.out e)
                                have HU := Lib.hid (fun e => hasT_found b.mem x hjl hjk e)
                                generalize b.mem[j] = y at *
                                cases hy : (y.toList == x.toList) with
                                | true =>
                                  have HE := Lib.hid (show rightBt b = false by rw [HK.out, HS.out, hr, HU.out hy]; rfl)
                                  go_wp2_with fail
                                  go_ret
                                  exact ⟨by rw [HE.out]; rfl, B.out.trans (HW2.out.mono B.out.size)⟩
                                | false =>
                                  have HN := Lib.hid (HT.out hy)
                                  go_wp2_with fail
                                  go_roundw
                                  case rel => exact ⟨j + 1, by omega, by go_num, by trivial, HN⟩
                                  case measure => simp [intOf]; omega
                              · obtain rfl : j = k := by omega
                                have HE := Lib.hid (show rightBt b = goodM (b.mem.take (j + 1)) (b.mem.drop (j + 1)) by rw [HK.out, HS.out, hr, HJ.out]; rfl)
                                go_wp2_with fail
                                go_roundw
                                case rel => exact ⟨j + 1, by omega, by go_num, HE, HW2⟩
                                case measure => simp [intOf]; omega
                        · have HE := Lib.hid (show rightBt b = true by rw [HK.out, List.drop_eq_nil_of_le (by omega)]; rfl)
                          go_wp2_with fail
                          go_ret
                          exact ⟨by rw [HE.out]; rfl, B.out.trans (HW.out.mono B.out.size)⟩
end

/- BtSame: What Same of package batch, and the document's, answer, at any two batches. -/
section
set_option maxRecDepth 100000
open Go.RowKit

set_option maxHeartbeats 4000000 in
theorem refBtSame_any (a1 a2 : Option Addr) (c1 c2 : Nat) (x y : Bt) (w : World) (h1 : BtP w a1 c1 x) (h2 : BtP w a2 c2 y) : Calls Tryz.prog 74 #[btV a1 c1 x, btV a2 c2 y] w (Tell (sameBt x y) w) := by
  have D0 := Lib.hid (BtB.new w a1 c1 x)
  have D2 := Lib.hid (BtB.new (w.alloc (.cells (btC a1 c1 x) 98)) a2 c2 y)
  have hz : (w.alloc (.cells (btC a1 c1 x) 98)).heap.size = w.heap.size + 1 := by simp
  have D1 := Lib.hid (D0.out.below ((Below.refl _ _).alloc (Nat.le_refl _) (.cells (btC a2 c2 y) 98)))
  have B := Lib.hid (((Below.refl w.heap.size w).alloc (Nat.le_refl _) (Obj.cells (btC a1 c1 x) 98)).alloc (by simp) (Obj.cells (btC a2 c2 y) 98))
  have C := Lib.hid (refSameT_any a1 a2 c1 c2 x.mem y.mem _ (h1.mem.below B.out) (h2.mem.below B.out))
  rw [hz] at D2
  have HE := Lib.hid (show sameBt x y = ((x.id == y.id) && ((x.wt == y.wt) && ((x.born == y.born) && ((x.kind == y.kind) && ((x.phase == y.phase) && (sameG x.car x.zone x.serv y.car y.zone y.serv && sameT x.mem y.mem)))))) from rfl)
  have Q := eq_grT x.car x.zone x.serv y.car y.zone y.serv
  clear h1 h2 hz D0
  unfold btV
  unfold btC at *
  go_enter Tryz.func74, Tryz.ntmps74
  obtain ⟨⟨c0, c1', c2', c3, c4⟩, c5, c6, c7, c8⟩ := BtB.cells (b := x) D1.out
  obtain ⟨⟨d0, d1, d2, d3, d4⟩, d5, d6, d7, d8⟩ := BtB.cells (b := y) D2.out
  clear D1 D2
  have BW := B.out
  cases k1 : (x.id == y.id) with
  | false =>
    go_wp2_with fail
    go_ret
    exact ⟨by rw [HE.out, k1]; rfl, BW⟩
  | true =>
    cases k2 : (x.wt == y.wt) with
    | false =>
      go_wp2_with fail
      go_ret
      exact ⟨by rw [HE.out, k1, k2]; rfl, BW⟩
    | true =>
      cases k3 : (x.born == y.born) with
      | false =>
        go_wp2_with fail
        go_ret
        exact ⟨by rw [HE.out, k1, k2, k3]; rfl, BW⟩
      | true =>
        cases k4 : (x.kind == y.kind) with
        | false =>
          go_wp2_with fail
          go_ret
          exact ⟨by rw [HE.out, k1, k2, k3, k4]; rfl, BW⟩
        | true =>
          cases k5 : (x.phase == y.phase) with
          | false =>
            go_wp2_with fail
            go_ret
            exact ⟨by rw [HE.out, k1, k2, k3, k4, k5]; rfl, BW⟩
          | true =>
            cases k6 : sameG x.car x.zone x.serv y.car y.zone y.serv with
            | false =>
              rw [k6] at Q
              go_wp2_with fail
              go_ret
              exact ⟨by rw [HE.out, k1, k2, k3, k4, k5, k6]; rfl, BW⟩
            | true =>
              rw [k6] at Q
              go_wp2_with fail
              refine C.out.mono ?_
              rintro e w1 ⟨rfl, b1⟩
              go_wp2_with fail
              go_ret
              exact ⟨by rw [HE.out, k1, k2, k3, k4, k5, k6]; rfl, BW.trans (b1.mono BW.size)⟩
end

/- BtHas: What the document's Has of batches answers. -/
section
set_option maxRecDepth 100000
open Go.RowKit Go.ChangeShapes Go.WideShapes Go.ChangeAt

theorem hasT_step (l : List ByteArray) (x : ByteArray) {k : Nat} (h : k < l.length) : hasT (l.drop k) x = ((l[k].toList == x.toList) || hasT (l.drop (k + 1)) x) := by
  rw [List.drop_eq_getElem_cons h]; rfl

set_option maxHeartbeats 4000000 in
theorem refHas_any (a : Option Addr) (cap : Nat) (b : Bt) (id : ByteArray) (w : World) (h : StrsP w a cap b.mem) : Calls Tryz.prog 62 #[btV a cap b, .string id] w (Tell (hasT b.mem id) w) := by
  have B := Lib.hid ((Below.refl w.heap.size w).alloc (Nat.le_refl _) (Obj.cells (btC a cap b) 98))
  have H := Lib.hid (h.below B.out)
  have hl := h.len
  clear h
  unfold btV
  unfold btC at *
  go_enter Tryz.func62, Tryz.ntmps62
  go_wp2_with fail
  generalize w.alloc (Obj.cells #[Value.int IntKind.i64 b.id, Value.int IntKind.i64 b.wt, Value.int IntKind.i64 b.born, Value.int IntKind.i64 b.kind, Value.int IntKind.i64 b.phase, Value.string b.car, Value.string b.zone, Value.string b.serv, Value.slice a b.mem.length cap] 98) = W at *
  go_loop [10] (fun i => ∃ k : Nat, k ≤ b.mem.length ∧ i = .int .i64 k ∧ Hid (hasT b.mem id = hasT (b.mem.drop k) id)) (fun i => b.mem.length - (intOf i).toNat)
  case atStart => exact ⟨0, Nat.zero_le _, rfl, Lib.hid rfl⟩
  case round =>
    obtain ⟨k, hk, rfl, HK⟩ := hrel
    by_cases hlt : k < b.mem.length
    · obtain ⟨bb, oo, rfl, q1, g1⟩ := H.out.at k hlt
      have p1 := H.out.cap
      have HS := Lib.hid (hasT_step b.mem id hlt)
      generalize b.mem[k] = y at *
      cases hy : (y.toList == id.toList) with
      | true =>
        have HE := Lib.hid (show hasT b.mem id = true by rw [HK.out, HS.out, hy]; rfl)
        go_wp2_with fail
        go_ret
        exact ⟨by rw [HE.out]; rfl, B.out⟩
      | false =>
        have HE := Lib.hid (show hasT b.mem id = hasT (b.mem.drop (k + 1)) id by rw [HK.out, HS.out, hy]; rfl)
        go_wp2_with fail
        go_round
        case rel => exact ⟨k + 1, by omega, by go_num, HE⟩
        case measure => simp [intOf]; omega
    · have HE := Lib.hid (show hasT b.mem id = false by rw [HK.out, List.drop_eq_nil_of_le (by omega)]; rfl)
      go_wp2_with fail
      go_ret
      exact ⟨by rw [HE.out]; rfl, B.out⟩
end

/- BtArgs0: What came in as a batch, as caps. -/
section
set_option maxRecDepth 100000
open Go.ChangeShapes Go.WideShapes Go.ChangeAt Go.RowKit

end
end

/- MgEffects: Effects, phases. -/
section
/- ObPlain: Plain facts on what is asked of the outside: which can be, what is sent and settled, their bytes, and what bytes are read as. -/
section
set_option maxRecDepth 100000

end

/- ObLay: Effects as values: how they lie, whole loads and stores told at once, when two are the same. -/
section
set_option maxRecDepth 100000
open Go.RowKit Go.ChangeShapes Go.WideShapes Go.ChangeAt

section
variable (ev : Operand → Value) (d : Option Tmp) (ty : TypeId) (pos : String) (af : Array Edge) (gd : Option (Nat × Bool)) (w : World)
end

end

/- ObArgs0: What came in as an effect, as effects. -/
section
set_option maxRecDepth 100000
open Go.ChangeShapes Go.WideShapes Go.ChangeAt Go.RowKit

end

/- ObLeaf: What the small functions of package outbox answer: whether an effect can be, how long one waits; the document's. -/
section
set_option maxRecDepth 100000
open Go.RowKit Go.ChangeShapes Go.WideShapes Go.ChangeAt
attribute [local go_sem ↓] ldEf stEf alEf bxEf eqEf
attribute [local go_sem] al_ef bx_ef

set_option maxHeartbeats 1000000 in
theorem obRefTick_any (n : Int) (w : World) : Calls Tryz.prog 57 #[.int .i64 n] w (BoolSame (tickB n) w) := by
  have HE := Lib.hid (show tickB n = (decide (0 ≤ n) && decide (n ≤ 1099511627776)) by rw [Bool.eq_iff_iff]; simp [tickB])
  cases h1 : decide (0 ≤ n) <;> cases h2 : decide (n ≤ 1099511627776)
  all_goals
    rw [h1, h2] at HE
    go_enter Tryz.func57, Tryz.ntmps57
    go_wp2_with fail
    go_ret
    exact ⟨by rw [HE.out]; rfl, rfl⟩
end

/- ObFind: Where the effect of a key stands: what BinarySearchFunc of package slices answers, and place of package outbox. -/
section
set_option maxRecDepth 100000
open Go.RowKit Go.ChangeShapes Go.WideShapes Go.ChangeAt
attribute [local go_sem ↓] ldEf stEf alEf bxEf eqEf
attribute [local go_sem] al_ef bx_ef

end

/- ObRight: Whether an effect can stand behind others, and whether all can: package outbox. -/
section
set_option maxRecDepth 100000
open Go.RowKit Go.ChangeShapes Go.WideShapes Go.ChangeAt
attribute [local go_sem ↓] ldEf stEf alEf bxEf eqEf
attribute [local go_sem] al_ef bx_ef st_new

end

/- ObAdd: What own, Add and Find of package outbox answer. -/
section
set_option maxRecDepth 100000
open Go.RowKit Go.ChangeShapes Go.WideShapes Go.ChangeAt
attribute [local go_sem ↓] ldEf stEf alEf bxEf eqEf bdEf bsEf
attribute [local go_sem] al_ef bx_ef st_new bd_ef bs_ef bs_ef0

theorem ef_one (W : World) (n : Nat) (hn : W.heap.size = n) (y : Ef) : SlP LE (W.alloc (.cells (efC y) 138)) (some ⟨n, 0, none⟩) 1 [y] := hn ▸ SlP.one LE_ok W y

end

/- ObFindC: What Find and Due of package outbox answer. -/
section
set_option maxRecDepth 100000
open Go.RowKit Go.ChangeShapes Go.WideShapes Go.ChangeAt
attribute [local go_sem ↓] ldEf stEf alEf bxEf eqEf bdEf bsEf
attribute [local go_sem] al_ef bx_ef st_new bd_ef bs_ef bs_ef0

end

/- ObSame: When two effects are the same; the document's Same. -/
section
set_option maxRecDepth 100000
open Go.RowKit Go.ChangeShapes Go.WideShapes Go.ChangeAt
attribute [local go_sem ↓] ldEf stEf alEf bxEf eqEf bdEf bsEf
attribute [local go_sem] al_ef bx_ef st_new bd_ef bs_ef bs_ef0

set_option maxHeartbeats 4000000 in
theorem obRefSame_any (a b : Option Addr) (ca cb : Nat) (l m : List Ef) (w : World) (h1 : SlP LE w a ca l) (h2 : SlP LE w b cb m) : Calls Tryz.prog 72 #[.slice a l.length ca, .slice b m.length cb] w (Tell (sameE l m) w) := by
  have H1 := Lib.hid h1
  have H2 := Lib.hid h2
  have k1 := h1.cap
  have k2 := h2.cap
  have hlm := h1.len
  have hlm2 := h2.len
  unfold maxLen at hlm hlm2
  clear h1 h2
  by_cases hl : l.length = m.length
  · have hq : ((l.length : Int) != (m.length : Int)) = false := by rw [hl]; simp
    go_enter Tryz.func72, Tryz.ntmps72
    go_wp2_with fail
    go_loopw [13] (fun i wr => ∃ k : Nat, k ≤ l.length ∧ i = .int .i64 k ∧ Hid (sameE l m = sameE (l.drop k) (m.drop k)) ∧ Below w.heap.size w wr) (fun i _ => l.length - (intOf i).toNat)
    case atStart => exact ⟨0, Nat.zero_le _, rfl, Lib.hid rfl, Below.refl _ _⟩
    case round =>
      obtain ⟨k, hk, rfl, HS, hbw⟩ := hrel
      by_cases hlt : k < l.length
      · have hlt2 : k < m.length := by omega
        obtain ⟨b1, o1, rfl, q1, ld1, _⟩ := (H1.out.below hbw).ef k hlt
        obtain ⟨b2, o2, rfl, q2, ld2, _⟩ := (H2.out.below hbw).ef k hlt2
        have ld1d : LdX 138 (.pointer (some ⟨b1, o1 + k * 6, none⟩)) wr.drew = .ok (.value (efV l[k])) wr.drew := ((H1.out.below hbw).below ((Below.refl _ _).drew)).ef k hlt |>.elim fun b' h => h.elim fun o' h => by
          obtain ⟨e, _, h, _⟩ := h
          injection e with e
          injection e with e1 e2
          subst e1 e2
          exact h
        have ld2d : LdX 138 (.pointer (some ⟨b2, o2 + k * 6, none⟩)) wr.drew = .ok (.value (efV m[k])) wr.drew := ((H2.out.below hbw).below ((Below.refl _ _).drew)).ef k hlt2 |>.elim fun b' h => h.elim fun o' h => by
          obtain ⟨e, _, h, _⟩ := h
          injection e with e
          injection e with e1 e2
          subst e1 e2
          exact h
        have HN := Lib.hid (HS.out.trans (sameE_step hlt hlt2))
        have ne := fun W a b => ne_ef W l[k] m[k] a b
        have B2 := Lib.hid hbw.drew
        generalize l[k] = x at *
        generalize m[k] = y at *
        generalize hE : eqB x y = E at *
        go_wp2_with fail
        go_region
        cases E with
        | false =>
          go_wp2_with fail
          go_ret
          exact ⟨by rw [HN.out]; rfl, B2.out⟩
        | true =>
          go_wp2_with fail
          go_roundw
          case rel => exact ⟨k + 1, hlt, by go_num, Lib.hid (by rw [HN.out, Bool.true_and]), B2.out⟩
          case measure => simp [intOf]; omega
      · have HE := Lib.hid (show sameE l m = true by rw [HS.out, List.drop_eq_nil_of_le (by omega), List.drop_eq_nil_of_le (by omega)]; rfl)
        go_wp2_with fail
        go_ret
        exact ⟨by rw [HE.out]; rfl, hbw⟩
  · have hq : ((l.length : Int) != (m.length : Int)) = true := by simp; omega
    have HE := Lib.hid (sameE_len hl)
    go_enter Tryz.func72, Tryz.ntmps72
    go_wp2_with fail
    go_ret
    exact ⟨by rw [HE.out]; rfl, Below.refl _ _⟩
end

/- ObRef: The document's One, Right and Backoff. -/
section
set_option maxRecDepth 100000
open Go.RowKit Go.ChangeShapes Go.WideShapes Go.ChangeAt
attribute [local go_sem ↓] ldEf stEf alEf bxEf eqEf bdEf bsEf
attribute [local go_sem] al_ef bx_ef st_new bd_ef bs_ef bs_ef0

theorem above_two (n : Int) : aboveB n = (!decide (n < 1) && !decide (1000000000000 < n)) := by
  rw [Bool.eq_iff_iff]
  simp [aboveB]
theorem above_pos (n : Int) : aboveB n = (decide (0 < n) && decide (n ≤ 1000000000000)) := by
  rw [Bool.eq_iff_iff]
  simp [aboveB]; omega
theorem one_doc (e : Ef) : oneB e = (!decide (e.key < 1) && (!decide (1000000000000 < e.key) && (tickB e.due && (!decide (e.tries < 0) && (!decide (1000000 < e.tries) && ofB e))))) := by
  have : triesB e.tries = (!decide (e.tries < 0) && !decide (1000000 < e.tries)) := by rw [Bool.eq_iff_iff]; simp [triesB]
  rw [oneB, this, above_two]
  simp only [Bool.and_assoc]

set_option maxHeartbeats 4000000 in
theorem refOne_any (e : Ef) (w : World) (hs : e.order.size ≤ maxLen) : Calls Tryz.prog 148 #[efV e] w (Tell (oneB e) w) := by
  have C1 := Lib.hid (fun w => obRefTick_any e.due w)
  have C2 := Lib.hid (fun w => refRight_any e.order w hs)
  have B := Lib.hid ((Below.refl w.heap.size w).alloc (Nat.le_refl _) (Obj.cells (efC e) 138))
  have D : Row (w.alloc (.cells (efC e) 138)) w.heap.size 138 (efC e) := Row.new _ _ _
  have HE := Lib.hid (one_doc e)
  have H1 := Lib.hid (ofB_both (e := e))
  have H2 := Lib.hid (ofB_sole (e := e))
  have H3 := Lib.hid (ofB_none (e := e))
  have ET := emptyT_test e.order
  unfold rightT at H2
  obtain ⟨c0, c1, c2, c3, c4, c5⟩ := D.c
  clear D
  cases k1 : decide (e.key < 1) with
  | true =>
    go_enter Tryz.func148, Tryz.ntmps148
    go_wp2_with fail
    go_ret
    exact ⟨by rw [HE.out, k1]; rfl, B.out⟩
  | false =>
    cases k2 : decide (1000000000000 < e.key) with
    | true =>
      go_enter Tryz.func148, Tryz.ntmps148
      go_wp2_with fail
      go_ret
      exact ⟨by rw [HE.out, k1, k2]; rfl, B.out⟩
    | false =>
      go_enter Tryz.func148, Tryz.ntmps148
      go_wp2_with fail
      refine (C1.out _).mono ?_
      rintro x w1 ⟨rfl, rfl⟩
      generalize w.alloc (Obj.cells (efC e) 138) = W at *
      cases k3 : tickB e.due with
      | false =>
        go_wp2_with fail
        go_ret
        exact ⟨by rw [HE.out, k1, k2, k3]; rfl, B.out⟩
      | true =>
        cases k4 : decide (e.tries < 0) with
        | true =>
          go_wp2_with fail
          go_ret
          exact ⟨by rw [HE.out, k1, k2, k3, k4]; rfl, B.out⟩
        | false =>
          cases k5 : decide (1000000 < e.tries) with
          | true =>
            go_wp2_with fail
            go_ret
            exact ⟨by rw [HE.out, k1, k2, k3, k4, k5]; rfl, B.out⟩
          | false =>
            have HF := Lib.hid (show oneB e = ofB e by rw [HE.out, k1, k2, k3, k4, k5]; rfl)
            clear HE C1 k1 k2 k3
            by_cases hb : bothB e.kind = true
            · have HO := Lib.hid ((H1.out hb).trans (by rw [above_pos]))
              have hk : e.kind = 3 ∨ e.kind = 4 := by simpa [bothB] using hb
              clear H1 H2 H3 hb
              rcases hk with hk | hk
              all_goals
                rw [hk] at c3
                clear hk
                cases p1 : decide (0 < e.batch) <;> cases p2 : decide (e.batch ≤ 1000000000000)
                all_goals
                  rw [p1, p2] at HO
                  go_wp2_with fail
                  go_ret
                  first
                    | exact ⟨by rw [HF.out, HO.out]; rfl, B.out⟩
                    | exact ⟨by rw [HF.out, HO.out, ← ET]; rfl, B.out⟩
            · have hb : bothB e.kind = false := by simpa using hb
              by_cases hs : soleB e.kind = true
              · have HO := Lib.hid (H2.out hb hs)
                have hk : e.kind = 1 ∨ e.kind = 2 ∨ e.kind = 5 ∨ e.kind = 6 ∨ e.kind = 7 := by simpa [soleB] using hs
                clear H1 H2 H3 hb hs
                rcases hk with hk | hk | hk | hk | hk
                all_goals
                  rw [hk] at c3
                  clear hk
                  cases h1 : (e.batch == 0) with
                  | false =>
                    rw [h1] at HO
                    go_wp2_with fail
                    go_ret
                    exact ⟨by rw [HF.out, HO.out]; rfl, B.out⟩
                  | true =>
                    rw [h1] at HO
                    go_wp2_with fail
                    refine (C2.out _).mono ?_
                    rintro x w1 ⟨rfl, b1⟩
                    go_wp2_with fail
                    go_ret
                    exact ⟨by rw [HF.out, HO.out]; rfl, B.out.trans (b1.mono B.out.size)⟩
              · have hs : soleB e.kind = false := by simpa using hs
                have HO := Lib.hid (H3.out hb hs)
                clear H1 H2 H3
                obtain ⟨kb, ks⟩ := kinds_of e.kind
                rw [kb] at hb
                rw [ks] at hs
                simp only [Bool.or_eq_false_iff] at hb hs
                obtain ⟨k3, k4⟩ := hb
                obtain ⟨k1, k2, k5, k6, k7⟩ := hs
                clear kb ks
                go_wp2_with fail
                go_ret
                exact ⟨by rw [HF.out, HO.out]; rfl, B.out⟩

set_option maxHeartbeats 4000000 in
theorem refObRight_any (a : Option Addr) (cap : Nat) (l : List Ef) (w : World) (h : SlP LE w a cap l) (hs : ∀ e ∈ l, e.order.size ≤ maxLen) : Calls Tryz.prog 117 #[.slice a l.length cap] w (Tell (rightE l) w) := by
  have H := Lib.hid h
  have hc := h.cap
  have hlm := h.len
  unfold maxLen at hlm
  clear h
  go_enter Tryz.func117, Tryz.ntmps117
  go_wp2_with fail
  go_loopw [3, 8] (fun s3 i wr => ∃ k : Nat, k ≤ l.length ∧ i = .int .i64 k ∧ s3 = .int .i64 (keyAt l k) ∧ Hid (rightE l = goodE (keyAt l k) (l.drop k)) ∧ Below w.heap.size w wr) (fun _ i _ => l.length - (intOf i).toNat)
  case atStart => exact ⟨0, Nat.zero_le _, rfl, rfl, Lib.hid (rightE_at l), Below.refl _ _⟩
  case round =>
    obtain ⟨k, hk, rfl, rfl, HG, hbw⟩ := hrel
    by_cases hlt : k < l.length
    · have HN := Lib.hid (HG.out.trans (goodE_step l k hlt))
      have hy := hs _ (List.getElem_mem hlt)
      have hkk : keyAt l (k + 1) = l[k].key := by simp [keyAt, hlt]
      obtain ⟨b, o, rfl, hb, ld, hrest⟩ := (H.out.below hbw).ef k hlt
      have R := Lib.hid (Row.new wr (efC l[k]) 138)
      have BW := Lib.hid (hbw.alloc hbw.size (.cells (efC l[k]) 138))
      have ld2 := ld_row R.out
      obtain ⟨c0, _⟩ := R.out.c
      have C := Lib.hid (fun w => refOne_any l[k] w hy)
      clear HG hrest
      generalize l[k] = y at *
      generalize keyAt l k = K at *
      go_wp2_with fail
      generalize wr.alloc (Obj.cells (efC y) 138) = W at *
      refine (C.out _).mono ?_
      rintro x w1 ⟨rfl, b1⟩
      have R1 := Lib.hid (R.out.below b1)
      have B1 := Lib.hid (BW.out.trans (b1.mono BW.out.size))
      obtain ⟨d0, _⟩ := R1.out.c
      clear c0 ld ld2 b1 R
      cases ho : oneB y with
      | false =>
        go_wp2_with fail
        go_ret
        exact ⟨by rw [HN.out, ho]; rfl, B1.out⟩
      | true =>
        cases hlk : decide (K < y.key) with
        | false =>
          have hle : y.key ≤ K := by simpa using hlk
          go_wp2_with fail
          go_ret
          exact ⟨by rw [HN.out, ho, hlk]; rfl, B1.out⟩
        | true =>
          have hle : ¬ y.key ≤ K := by simpa using hlk
          go_wp2_with fail
          go_roundw
          case rel => exact ⟨k + 1, hlt, by go_num, by rw [hkk], Lib.hid (by rw [HN.out, ho, hlk, Bool.true_and, Bool.true_and]), B1.out⟩
          case measure => simp [intOf]; omega
    · have HE := Lib.hid (show rightE l = true by rw [HG.out, List.drop_eq_nil_of_le (by omega)]; rfl)
      go_wp2_with fail
      go_ret
      exact ⟨by rw [HE.out]; rfl, hbw⟩

end

/- SgPlain: Plain facts on what becomes of an order: the table, one step, and what follows of many. -/
section
set_option maxRecDepth 100000

end

/- SgLay: A saga as a value: whole loads and stores told at once, when two are the same. -/
section
set_option maxRecDepth 100000
open Go.RowKit Go.ChangeShapes Go.WideShapes Go.ChangeAt

section
variable (ev : Operand → Value) (d : Option Tmp) (ty : TypeId) (pos : String) (af : Array Edge) (gd : Option (Nat × Bool)) (w : World)
end
end

/- SgProg: What Asks and Left of package saga answer. -/
section
set_option maxRecDepth 100000
open Go.RowKit Go.ChangeShapes Go.WideShapes Go.ChangeAt
attribute [local go_sem ↓] ldSg stSg alSg bxSg eqSg bdSg
attribute [local go_sem] al_sg bx_sg bd_sg bd_sg0 st_sgnew

end

/- SgAsk: The document's Asks: a map. -/
section
set_option maxRecDepth 100000
open Go.RowKit Go.Maps

theorem wf_small {a : Int} (h : -1 ≤ a ∧ a ≤ 100) : (Lit.int .i64 a).wf = true := by
  simp [Lit.wf, IntKind.min, IntKind.max, IntKind.signed, IntKind.bits]
  omega
theorem run_makeMap0 (w : World) : (Instr.makeMap 183 none).run Tryz.prog w = .ok (.map (some w.heap.size)) (w.alloc (.map #[] 0)) := by rfl
theorem zero3 (w : World) : (zeroValue 3).run Tryz.prog w = .ok (.int .i64 0) w := by kernel_rfl
/-- The map's entries, one behind the other. -/
def putD (D : DataW Unit) (k v : Int) : DataW Unit := D.put (.int .i64 k) (.lit (.int .i64 v))
def askD : DataW Unit := putD (putD (putD (putD (putD (.map []) 1 1) 2 2) 7 5) 9 6) 10 7
theorem isMap_put {D : DataW Unit} (h : IsMap D) (k v : Int) : IsMap (putD D k v) := by
  obtain ⟨es, rfl⟩ := h
  exact ⟨_, rfl⟩
theorem at_put {D : DataW Unit} (h : IsMap D) (k v p : Int) (z : DataW Unit) : (putD D k v).atKey (.int .i64 p) z = if p = k then .lit (.int .i64 v) else D.atKey (.int .i64 p) z := by
  unfold putD
  split
  · rename_i e
    subst e
    exact atKey_put_same (k := .int .i64 p) h trivial _ _
  · rename_i e
    exact atKey_put_other (fun hc => e (by injection hc)) _ _
theorem ask_at (p : Int) : askD.atKey (.int .i64 p) (.lit (.int .i64 0)) = .lit (.int .i64 (asksN p)) := by
  have m0 : IsMap (.map [] : DataW Unit) := isMap_empty
  have m1 := isMap_put m0 1 1
  have m2 := isMap_put m1 2 2
  have m3 := isMap_put m2 7 5
  have m4 := isMap_put m3 9 6
  unfold askD
  rw [at_put m4, at_put m3, at_put m2, at_put m1, at_put m0]
  unfold asksN
  by_cases h1 : p = 1
  · subst h1; rfl
  · by_cases h2 : p = 2
    · subst h2; rfl
    · by_cases h3 : p = 7
      · subst h3; rfl
      · by_cases h4 : p = 9
        · subst h4; rfl
        · by_cases h5 : p = 10
          · subst h5; rfl
          · simp only [h1, h2, h3, h4, h5, if_false]
            rfl

set_option maxHeartbeats 2000000 in
theorem refAsks_any (p : Int) (w : World) (hp : -1 ≤ p ∧ p ≤ 100) : Calls Tryz.prog 115 #[.int .i64 p] w (NumP (asksN p) w) := by
  have K := int_keyed Tryz.underlying3
  have ht := Tryz.underlying183
  have hmm := run_makeMap0 w
  have B0 := (Below.refl w.heap.size w).alloc (Nat.le_refl _) (.map #[] 0)
  have o0 := World.ownsMap_made (H := Unit) w Tryz.prog 3 (plainElem Tryz.prog 3)
  generalize w.alloc (.map #[] 0) = W0 at *
  obtain ⟨w1, r1, o1, g1⟩ := o0.update K ht (by unfold maxLen; omega) (keyOf_int_mk Tryz.underlying3 (wf_small (a := 1) (by omega))) (plainElem_int Tryz.underlying3 (wf_small (a := 1) (by omega)))
  obtain ⟨w2, r2, o2, g2⟩ := o1.update K ht (by unfold maxLen; omega) (keyOf_int_mk Tryz.underlying3 (wf_small (a := 2) (by omega))) (plainElem_int Tryz.underlying3 (wf_small (a := 2) (by omega)))
  obtain ⟨w3, r3, o3, g3⟩ := o2.update K ht (by unfold maxLen; omega) (keyOf_int_mk Tryz.underlying3 (wf_small (a := 7) (by omega))) (plainElem_int Tryz.underlying3 (wf_small (a := 5) (by omega)))
  obtain ⟨w4, r4, o4, g4⟩ := o3.update K ht (by unfold maxLen; omega) (keyOf_int_mk Tryz.underlying3 (wf_small (a := 9) (by omega))) (plainElem_int Tryz.underlying3 (wf_small (a := 6) (by omega)))
  obtain ⟨w5, r5, o5, g5⟩ := o4.update K ht (by unfold maxLen; omega) (keyOf_int_mk Tryz.underlying3 (wf_small (a := 10) (by omega))) (plainElem_int Tryz.underlying3 (wf_small (a := 7) (by omega)))
  have hr : ∀ k : Nat, some w.heap.size = some k → w.heap.size ≤ k := fun k hk => by injection hk with hk; omega
  have B5 := Lib.hid (((((B0.grown g1 B0.size hr).grown g2 (B0.grown g1 B0.size hr).size hr).grown g3 ((B0.grown g1 B0.size hr).grown g2 (B0.grown g1 B0.size hr).size hr).size hr).grown g4 (((B0.grown g1 B0.size hr).grown g2 (B0.grown g1 B0.size hr).size hr).grown g3 ((B0.grown g1 B0.size hr).grown g2 (B0.grown g1 B0.size hr).size hr).size hr).size hr).grown g5 ((((B0.grown g1 B0.size hr).grown g2 (B0.grown g1 B0.size hr).size hr).grown g3 ((B0.grown g1 B0.size hr).grown g2 (B0.grown g1 B0.size hr).size hr).size hr).grown g4 (((B0.grown g1 B0.size hr).grown g2 (B0.grown g1 B0.size hr).size hr).grown g3 ((B0.grown g1 B0.size hr).grown g2 (B0.grown g1 B0.size hr).size hr).size hr).size hr).size hr)
  obtain ⟨c, rl, hat, _⟩ := o5.lookup_int K ht Tryz.underlying3 (zero3 w5) (keyOf_int_mk Tryz.underlying3 (wf_small hp))
  have hc : c = asksN p := by
    have h2 := ask_at p
    have h3 := hat.symm.trans h2
    injection h3 with h3
    injection h3 with _ h3
  clear o0 o1 o2 o3 o4 o5 g1 g2 g3 g4 g5 hat hr K ht B0
  go_enter Tryz.func115, Tryz.ntmps115
  go_wp2_with fail
  go_ret
  exact ⟨rfl, B5.out⟩
end
end

/- DyLeaf: What Right, Of, End and the inner functions of package day answer, and the document's Right, Fits, Closes and Next. -/
section
set_option maxRecDepth 100000
open Go.RowKit

set_option maxHeartbeats 2000000 in
/-- The document's Fits. -/
theorem refFits_any (a : Option Addr) (cap : Nat) (l : List Int) (w : World) (h : IntsP w a cap l) (hm : l.length ≤ maxLen) :
    Calls Tryz.prog 56 #[.slice a l.length cap] w fun e w' => e = .returned (.bool (fitsB l)) ∧ w = w' := by
  have H := Lib.hid h
  clear h
  unfold maxLen at hm
  go_enter Tryz.func56, Tryz.ntmps56
  go_wp2_with fail
  go_loop [3, 8] (fun s i => ∃ (k : Nat) (t : Int), k ≤ l.length ∧ i = .int .i64 k ∧ s = .int .i64 t ∧ Hid (fitsFrom (-1) l = fitsFrom t (l.drop k))) (fun _ i => l.length - (intOf i).toNat)
  case atStart => exact ⟨0, -1, Nat.zero_le _, rfl, rfl, Lib.hid rfl⟩
  case round =>
    obtain ⟨k, t, hk, rfl, rfl, HS⟩ := hrel
    by_cases hlt : k < l.length
    · have hne : l ≠ [] := by intro e; subst e; simp at hlt
      obtain ⟨b1, o1, rfl, q1, r1⟩ := H.out.cell hne
      have g1 := r1 k _ (List.getElem?_eq_getElem hlt)
      have p1 := H.out.cap
      have HD := Lib.hid (List.drop_eq_getElem_cons hlt)
      generalize l[k] = x at *
      clear r1 hne
      cases hx : decide (x ≤ t) with
      | true =>
        have E := Lib.hid (show fitsB l = false by
          unfold fitsB
          rw [HS.out, HD.out, fitsFrom, decide_eq_false (by simp at hx; omega)]; rfl)
        go_wp2_with fail
        go_ret
        exact ⟨by rw [E.out]; rfl, rfl⟩
      | false =>
        cases hy : decide (95 < x) with
        | true =>
          have E := Lib.hid (show fitsB l = false by
            unfold fitsB
            rw [HS.out, HD.out, fitsFrom, decide_eq_false (p := x ≤ 95) (by simp at hy; omega)]; simp)
          go_wp2_with fail
          go_ret
          exact ⟨by rw [E.out]; rfl, rfl⟩
        | false =>
          have HN := Lib.hid (show fitsFrom (-1) l = fitsFrom x (l.drop (k + 1)) by
            rw [HS.out, HD.out, fitsFrom, decide_eq_true (p := t < x) (by simp at hx; omega), decide_eq_true (p := x ≤ 95) (by simp at hy; omega)]; rfl)
          go_wp2_with fail
          go_round
          case rel => exact ⟨k + 1, x, by omega, by go_num, rfl, HN⟩
          case measure => simp [intOf]; omega
    · have E := Lib.hid (show fitsB l = decide (0 < l.length) by
        unfold fitsB
        rw [HS.out, List.drop_eq_nil_of_le (by omega), fitsFrom]; rfl)
      go_wp2_with fail
      go_ret
      exact ⟨by rw [E.out]; simp, rfl⟩
end

end Go.Proofs.YtfmpibmhhfmajaaGreatDoor
