/- What SnapTold wants besides: MgBase, LbLeaf, LbCmp, LbRef, MgLines, MgOrders, MgStates, BkRead, ScScan, OrRTake, SnPlain, SnLay, SnRef. -/
import Derived.Test.YtfmpibmhhfmajaaGreatDoorChecked
import Derived.WalkKit
import Derived.WalkSpells
import Derived.ProofKit
import Derived.Below
import Derived.IntWalk
import Derived.Lib.Hide
import Derived.Laws.BitsAllLaws
import Derived.OpenShut
import Derived.ChangeSlices
import Derived.OwnWalk
import Derived.Laws.AppendOwn
import Derived.Laws.AppendOwnNone
import Derived.Laws.BytesArg
import Derived.Deep.AppendSrc
import Derived.Lib.SlBytesConst
import Derived.Lib.AppendStr
import Derived.Lib.SliceRun
import Derived.Deep.QuietTactic
import Derived.BigQuiet
import Derived.ArgAppend
import Derived.Test.YtfmpibmhhfmajaaGreatDoorMgBase
import Derived.Test.YtfmpibmhhfmajaaGreatDoorPLb
import Derived.Test.YtfmpibmhhfmajaaGreatDoorLbShelf
import Derived.RegionTactic
import Derived.Deep.RegionWith
import Derived.ChangeAlike
import Derived.Laws.StructEq
import Derived.Test.YtfmpibmhhfmajaaGreatDoorRows
import Derived.Deep.Slices
import Derived.Deep.Strs
import Derived.Lib.SmallJoins
import Derived.Test.YtfmpibmhhfmajaaGreatDoorPSl
import Derived.Test.YtfmpibmhhfmajaaGreatDoorMgLines
import Derived.Test.YtfmpibmhhfmajaaGreatDoorMgState
import Derived.Test.YtfmpibmhhfmajaaGreatDoorMgOrders
import Derived.Test.YtfmpibmhhfmajaaGreatDoorMgEffects
import Derived.Test.YtfmpibmhhfmajaaGreatDoorPDy
import Derived.Test.YtfmpibmhhfmajaaGreatDoorMgBatches
import Derived.Test.YtfmpibmhhfmajaaGreatDoorPSc
import Derived.Test.YtfmpibmhhfmajaaGreatDoorPOr
import Derived.Test.YtfmpibmhhfmajaaGreatDoorSnPlain
import Derived.Test.YtfmpibmhhfmajaaGreatDoorSnLay
import Derived.Test.YtfmpibmhhfmajaaGreatDoorMgStates
import Derived.Deep.DeepCutAuto
import Derived.Test.YtfmpibmhhfmajaaGreatDoorDyShelf
import Derived.Test.YtfmpibmhhfmajaaGreatDoorMgRight
import Derived.Test.YtfmpibmhhfmajaaGreatDoorMgProg
import Derived.Test.YtfmpibmhhfmajaaGreatDoorMgCopy
import Derived.Test.YtfmpibmhhfmajaaGreatDoorPBt
import Derived.Test.YtfmpibmhhfmajaaGreatDoorPOb
import Derived.Test.YtfmpibmhhfmajaaGreatDoorSnPlain2
import Derived.Test.YtfmpibmhhfmajaaGreatDoorSnRef3
import Derived.Test.YtfmpibmhhfmajaaGreatDoorSnRef4
import Derived.Test.YtfmpibmhhfmajaaGreatDoorSnKinds
import Derived.Test.YtfmpibmhhfmajaaGreatDoorSnLines
import Derived.Test.YtfmpibmhhfmajaaGreatDoorSnTold
import Derived.Test.YtfmpibmhhfmajaaGreatDoorSnRight
import Derived.Test.YtfmpibmhhfmajaaGreatDoorSnCon
import Derived.Test.YtfmpibmhhfmajaaGreatDoorSnRow
import Derived.Test.YtfmpibmhhfmajaaGreatDoorSnOwn
import Derived.Test.YtfmpibmhhfmajaaGreatDoorSnRead0
import Derived.Test.YtfmpibmhhfmajaaGreatDoorSnReadP
import Derived.Test.YtfmpibmhhfmajaaGreatDoorSnReadP2
import Derived.Test.YtfmpibmhhfmajaaGreatDoorSnReadP3
import Derived.Test.YtfmpibmhhfmajaaGreatDoorSnReadD
import Derived.Test.YtfmpibmhhfmajaaGreatDoorSnCmd
import Derived.Test.YtfmpibmhhfmajaaGreatDoorSnState
import Derived.Test.YtfmpibmhhfmajaaGreatDoorSnAlive
namespace Go.Proofs.YtfmpibmhhfmajaaGreatDoor

/- MgBase: Texts, blocks, books of what is the program's own: the base. -/
section
/- TxBase: Slices of texts: what they read as; tests that turn nothing that was there; worlds behind some draws. -/
section
set_option maxRecDepth 100000
open Go.ChangeShapes Go.WideShapes Go.ChangeAt Go.RowKit

end

/- TxMem: Slices of texts in memory: what they read as, rows of a call's own, append onto such rows and onto a slice without room. -/
section
set_option maxRecDepth 100000
open Go.RowKit

end

/- TxSame: What Same of package packhorseref01 answers of two slices of texts. -/
section
set_option maxRecDepth 100000
open Go.RowKit

end

/- BkPlain: Plain facts on bytes: numbers' bytes, in one way alone. -/
section
end

/- BkOwn: Slices of bytes in memory; bytes in a row of the call's own: put behind others, read as a text; parts of a slice of bytes; what Clone of package bytes answers. -/
section
set_option maxRecDepth 100000
open Go.ChangeShapes Go.WideShapes Go.ChangeAt Go.RowKit

/-- s[:j]. -/
theorem slice_to {a : Option Addr} {cap : Nat} {l : List Nat} (hc : l.length ≤ cap) (k : Nat) (i : Int) (hi : i = (k : Int)) (hk : k ≤ l.length) :
    ∃ a' c', (∀ W, (Instr.slice 40 (.slice a l.length cap) none (some (.int .i64 i)) none).run Tryz.prog W = .ok (.slice a' (l.take k).length c') W) ∧ ∀ W, BytesP W a cap l → BytesP W a' c' (l.take k) := by
  subst hi
  obtain ⟨i0, hi0, hz0, hzs, hzb⟩ := info_parts Tryz.info5
  refine ⟨if cap = 0 then a else a.map (·.add 0), cap, fun W => ?_, fun W h => ⟨by rw [List.length_take]; omega, by have := h.len; rw [List.length_take]; omega, fun b hb => h.byte b (List.mem_of_mem_take hb), fun hne => ?_⟩⟩
  · have hz : (Go.sizeOf 5).run Tryz.prog W = .ok 1 W := by simp [Go.sizeOf, typeInfo, hi0, hzs]
    have h2 : (k : Int) ≤ (cap : Int) := by omega
    have h3 : min k l.length = k := by omega
    simp [Instr.slice, run_underlying Tryz.underlying40, Instr.sliceBounds, run_sliceBound, h2, h3]
  · have hlt : 0 < l.length := by
      rcases Nat.eq_zero_or_pos l.length with h | h
      · rw [List.eq_nil_of_length_eq_zero h] at hne; simp at hne
      · exact h
    obtain ⟨b, o, rfl, hb, hcl⟩ := h.cell (by intro e; subst e; simp at hlt)
    refine ⟨b, o, by rw [if_neg (by omega), Option.map_some, Addr.add_lit]; rfl, hb, fun j x hj => ?_⟩
    rw [List.getElem?_take] at hj
    split at hj
    · exact hcl _ _ hj
    · cases hj

end

/- BkWrite: What Number and Text of package packet, and the document's, answer. -/
section
set_option maxRecDepth 100000
open Go.ChangeShapes Go.WideShapes Go.ChangeAt Go.RowKit

end

/- BkFar: Regions that draw their order, whose operations only read and whose callees may lay memory of their own: walked once, in the worlds that keep all that was there. -/
section
set_option maxRecDepth 100000
open Go.RowKit

end
end

/- LbLeaf: The tests on one sign: what isLetter, isDigit and isSign of package label answer, for every rune. -/
section
set_option maxRecDepth 100000
open Go.RowKit

/-- A byte of a text, by its place. -/
theorem run_byte (s : ByteArray) (k : Nat) (h : k < s.size) (W : World) : (Instr.index 9 (.string s) (.int .i64 (k : Int))).run Tryz.prog W = .ok (.int .u8 ((s.data.toList.getD k 0).toNat : Int)) W := by
  rw [run_index_string W 9 s .i64 _ Tryz.underlying9, dif_pos ⟨by omega, by omega⟩]
  have g := get_bang s k h
  have g1 := get_at s k h
  simp only [Nat.add_zero] at g1
  have e : s[(k : Int).toNat]'(by simpa using h) = s[k]'h := rfl
  rw [e, ← g1, g]
end

/- LbCmp: What Compare answers, in package label and in the document's own words, and that this is an order. -/
section
open Go.RowKit

theorem cmpL_three : ∀ a b : List UInt8, cmpL a b = -1 ∨ cmpL a b = 0 ∨ cmpL a b = 1
  | [], [] => by simp [cmpL_nn]
  | [], _ :: _ => by simp [cmpL_nc]
  | _ :: _, [] => by simp [cmpL_cn]
  | x :: a, y :: b => by
    have := cmpL_three a b
    rw [cmpL_cons]
    split
    · simp
    · split
      · simp
      · exact this

theorem cmpL_drop (a b : List UInt8) (k : Nat) (ha : k < a.length) (hb : k < b.length) : cmpL (a.drop k) (b.drop k) =
    if (a.getD k 0).toNat < (b.getD k 0).toNat then -1 else if (b.getD k 0).toNat < (a.getD k 0).toNat then 1 else cmpL (a.drop (k + 1)) (b.drop (k + 1)) := by
  rw [drop_cons a k ha, drop_cons b k hb, cmpL_cons]

theorem cmpL_end (a b : List UInt8) (k : Nat) (ha : k ≤ a.length) (hb : k ≤ b.length) (h : ¬ (k < a.length ∧ k < b.length)) : cmpL (a.drop k) (b.drop k) =
    if a.length < b.length then -1 else if b.length < a.length then 1 else 0 := by
  by_cases h1 : k < a.length
  · have : k = b.length := by omega
    subst this
    rw [drop_cons a _ h1, List.drop_length, cmpL_cn, if_neg (by omega), if_pos (by omega)]
  · have : k = a.length := by omega
    subst this
    rw [List.drop_length]
    by_cases h2 : a.length < b.length
    · rw [drop_cons b _ h2, cmpL_nc, if_pos h2]
    · rw [List.drop_of_length_le (by omega), cmpL_nn, if_neg h2, if_neg (by omega)]

set_option maxHeartbeats 2000000 in
theorem refCompare_any (a b : ByteArray) (w : World) (ha : a.size ≤ maxLen) (hb : b.size ≤ maxLen) :
    Calls Tryz.prog 59 #[.string a, .string b] w fun e w' => e = .returned (.int .i64 (cmpL a.data.toList b.data.toList)) ∧ Below w.heap.size w w' := by
  unfold maxLen at ha hb
  have HA := Lib.hid (Lib.size_eq a)
  have HB := Lib.hid (Lib.size_eq b)
  go_enter Tryz.func59, Tryz.ntmps59
  go_wp2
  go_loopw [5] (fun i wr => ∃ k : Nat, i = .int .i64 k ∧ k ≤ a.size ∧ k ≤ b.size ∧ Hid (cmpL a.data.toList b.data.toList = cmpL (a.data.toList.drop k) (b.data.toList.drop k)) ∧ Below w.heap.size w wr) (fun i _ => a.size - (intOf i).toNat)
  case atStart => exact ⟨0, rfl, by omega, by omega, rfl, Below.refl _ _⟩
  case round =>
    obtain ⟨k, rfl, hka, hkb, HK, hbw⟩ := hrel
    by_cases hlt : k < a.size ∧ k < b.size
    · obtain ⟨h1, h2⟩ := hlt
      have hia := run_byte a k h1
      have hib := run_byte b k h2
      have HD := Lib.hid (cmpL_drop a.data.toList b.data.toList k (by rw [← HA.out]; exact h1) (by rw [← HB.out]; exact h2))
      generalize (a.data.toList.getD k 0).toNat = x at *
      generalize (b.data.toList.getD k 0).toNat = y at *
      by_cases hxy : x < y
      · have hd : decide ((x : Int) < (y : Int)) = true := by simp; omega
        go_wp2
        go_region
        go_wp2
        go_ret
        exact ⟨ret_int (by rw [HK.out, HD.out, if_pos hxy]), hbw.drew⟩
      · have hd : decide ((x : Int) < (y : Int)) = false := by simp; omega
        by_cases hyx : y < x
        · have hd2 : decide ((y : Int) < (x : Int)) = true := by simp; omega
          go_wp2
          go_region
          go_wp2
          go_region
          go_wp2
          go_ret
          exact ⟨ret_int (by rw [HK.out, HD.out, if_neg hxy, if_pos hyx]), hbw.drew.drew⟩
        · have hd2 : decide ((y : Int) < (x : Int)) = false := by simp; omega
          go_wp2
          go_region
          go_wp2
          go_region
          go_wp2
          go_roundw
          case rel => exact ⟨k + 1, by go_num, by omega, by omega, Lib.hid (HK.out.trans (by rw [HD.out, if_neg hxy, if_neg hyx])), hbw.drew.drew⟩
          case measure => simp [intOf]; omega
    · have HE := Lib.hid (cmpL_end a.data.toList b.data.toList k (by rw [← HA.out]; exact hka) (by rw [← HB.out]; exact hkb) (by rw [← HA.out, ← HB.out]; exact hlt))
      rw [← HA.out, ← HB.out] at HE
      by_cases h1 : k < a.size
      · have h2 : ¬ k < b.size := fun h => hlt ⟨h1, h⟩
        clear hlt
        go_wp2
        all_goals
          go_ret
          refine ⟨ret_int ?_, hbw⟩
          rw [HK.out, HE.out]
          first | rw [if_pos (by omega)] | rw [if_neg (by omega), if_pos (by omega)] | rw [if_neg (by omega), if_neg (by omega)]
      · clear hlt
        go_wp2
        all_goals
          go_ret
          refine ⟨ret_int ?_, hbw⟩
          rw [HK.out, HE.out]
          first | rw [if_pos (by omega)] | rw [if_neg (by omega), if_pos (by omega)] | rw [if_neg (by omega), if_neg (by omega)]
end

/- LbRef: The document's own words on signs: what sign, Signs and Right of package packhorseref01 answer. -/
section
set_option maxRecDepth 100000
open Go.RowKit

def strV (x : List UInt8) : Value := .string ⟨x.toArray⟩
theorem Tryz.info9 : (Tryz.prog.info? 9).map (fun i => (i.zero, i.size, i.bytes)) = some (some (.string ByteArray.empty), 1, 16) := by kernel_rfl


/-- The sign at the head, by its first byte and the one behind it. -/
def sgN (c : Nat) (more : Bool) (d : Nat) : Nat × Bool :=
  if 97 ≤ c ∧ c ≤ 122 then (1, true) else if 48 ≤ c ∧ c ≤ 57 ∨ c = 45 then (1, false) else if more = false then (0, false)
  else if c = 206 ∧ 177 ≤ d ∧ d ≤ 191 ∨ c = 207 ∧ 128 ≤ d ∧ d ≤ 137 then (2, true) else (0, false)

theorem sg_N (l : List UInt8) (k : Nat) (h : k < l.length) : sg (l.drop k) = sgN (l.getD k 0).toNat (decide (k + 1 < l.length)) (l.getD (k + 1) 0).toNat := by
  rw [drop_cons l k h]
  generalize l.getD k 0 = c
  simp only [sg, sgN]
  by_cases h1 : let1 c = true
  · have : 97 ≤ c.toNat ∧ c.toNat ≤ 122 := by simpa [let1] using h1
    rw [if_pos h1, if_pos this]
  · have : ¬ (97 ≤ c.toNat ∧ c.toNat ≤ 122) := by simpa [let1] using h1
    rw [if_neg h1, if_neg this]
    by_cases h2 : one c = true
    · have h2' : 48 ≤ c.toNat ∧ c.toNat ≤ 57 ∨ c.toNat = 45 := by
        simp only [one, Bool.or_eq_true, h1, decide_eq_true_eq] at h2
        rcases h2 with h2 | h2
        · cases h2
        · exact h2
      rw [if_pos h2, if_pos h2']
    · have h2' : ¬ (48 ≤ c.toNat ∧ c.toNat ≤ 57 ∨ c.toNat = 45) := by
        intro h3
        exact h2 (by simp only [one, Bool.or_eq_true, decide_eq_true_eq]; exact Or.inr h3)
      rw [if_neg h2, if_neg h2']
      by_cases h3 : k + 1 < l.length
      · rw [drop_cons l (k + 1) h3]
        generalize l.getD (k + 1) 0 = d
        have h4 : decide (k + 1 < l.length) = true := by simpa using h3
        simp only [h4, Bool.true_eq_false, if_false]
        unfold two
        simp only [decide_eq_true_eq]
      · rw [List.drop_of_length_le (by omega)]
        have h4 : decide (k + 1 < l.length) = false := by simpa using h3
        simp only [h4, if_true]

set_option maxHeartbeats 2000000 in
theorem sign_any (s : ByteArray) (k : Nat) (w : World) (hs : s.size ≤ maxLen) (hk : k < s.size) :
    Calls Tryz.prog 146 #[.string s, .int .i64 k] w fun e w' => e = .returned (.tuple #[.int .i64 ((sg (s.data.toList.drop k)).1 : Nat), .bool (sg (s.data.toList.drop k)).2]) ∧ w = w' := by
  unfold maxLen at hs
  have hl : s.data.toList.length = s.size := (Lib.size_eq s).symm
  have HS := Lib.hid (sg_N s.data.toList k (by omega))
  rw [hl] at HS
  have hx := run_byte s k hk
  clear hl
  by_cases h1 : k + 1 < s.size
  · have hy := run_byte s (k + 1) h1
    have e1 : ((k + 1 : Nat) : Int) = (k : Int) + 1 := by omega
    rw [e1] at hy
    have hd : decide (k + 1 < s.size) = true := by simpa using h1
    rw [hd] at HS
    have hcb := (s.data.toList.getD k 0).toNat_lt
    have hdb := (s.data.toList.getD (k + 1) 0).toNat_lt
    generalize (s.data.toList.getD k 0).toNat = c at *
    generalize (s.data.toList.getD (k + 1) 0).toNat = d at *
    clear hd e1
    go_enter Tryz.func146, Tryz.ntmps146
    go_wp2
    all_goals
      go_ret2
      refine ⟨?_, rfl⟩
      rw [HS.out]
      simp only [beq_iff_eq, beq_eq_false_iff_ne, ne_eq] at *
      simp only [sgN, Bool.true_eq_false, if_false]
      repeat' split
      all_goals first | rfl | (exfalso; omega)
  · have hd : decide (k + 1 < s.size) = false := by simpa using h1
    rw [hd] at HS
    have hcb := (s.data.toList.getD k 0).toNat_lt
    generalize (s.data.toList.getD k 0).toNat = c at *
    generalize (s.data.toList.getD (k + 1) 0).toNat = d at *
    clear hd
    go_enter Tryz.func146, Tryz.ntmps146
    go_wp2
    all_goals
      go_ret2
      refine ⟨?_, rfl⟩
      rw [HS.out]
      simp only [beq_iff_eq, beq_eq_false_iff_ne, ne_eq] at *
      simp only [sgN, if_true]
      repeat' split
      all_goals first | rfl | (exfalso; omega)


def csL (l : List UInt8) : List (List UInt8) := (labOf l).getD []
theorem csL_none {l : List UInt8} (h : labOf l = none) : csL l = [] := by simp [csL, h]
theorem csL_fin {l : List UInt8} {pos k pre} (h : Pre l pos k pre) (hp : ¬ pos < l.length) : csL l = pre := by
  have := h.fin hp
  unfold csL
  rw [this]
  split
  · rename_i hk
    have : pre = [] := List.eq_nil_of_length_eq_zero (by rw [h.len, hk])
    rw [this]; rfl
  · rfl
theorem csL_right (l : List UInt8) : decide (0 < (csL l).length) = rightB l := by
  unfold csL rightB
  cases h : labOf l with
  | none => simp
  | some cs =>
    obtain ⟨_, h1, _⟩ := labOf_some.1 h
    have : 0 < cs.length := List.length_pos_iff.2 h1
    simpa using this

theorem own_shape {w : World} {base : Nat} {v : Value} {n : Nat} {xs : List Value} (h : w.ownsRow base 9 1 v n xs) : ∃ a cap, v = .slice a n cap := by
  rcases h.2 with ⟨rfl, rfl⟩ | ⟨g, cap, cur, rfl, _⟩
  · exact ⟨none, 0, rfl⟩
  · exact ⟨_, _, rfl⟩

/-- What Signs leaves: the signs, one by one. -/
def RefSigns (l : List UInt8) (w : World) (e : Ending) (w' : World) : Prop :=
  ∃ v, e = .returned v ∧ w'.ownsRow w.heap.size 9 1 v (csL l).length ((csL l).map strV) ∧ Below w.heap.size w w'

def RefRel (l : List UInt8) (w : World) (v i : Value) (wr : World) : Prop :=
  ∃ (pos k : Nat) (pre : List (List UInt8)), i = .int .i64 pos ∧ Pre l pos k pre ∧ wr.ownsRow w.heap.size 9 1 v k (pre.map strV) ∧ Below w.heap.size w wr

set_option maxHeartbeats 2000000 in
theorem refSigns_any (s : ByteArray) (w : World) (hs : s.size ≤ maxLen) : Calls Tryz.prog 107 #[.string s] w (RefSigns s.data.toList w) := by
  obtain ⟨i0, hi, hz0, hz1, hz2⟩ := info_parts Tryz.info9
  have HL := Lib.hid (Lib.size_eq s)
  have HM := Lib.hid hs
  unfold maxLen at hs
  go_enter Tryz.func107, Tryz.ntmps107
  go_wp2_with fail
  go_loopw [3, 4] (fun v i wr => RefRel s.data.toList w v i wr) (fun _ i _ => s.size - (intOf i).toNat)
  case atStart => exact ⟨0, 0, [], rfl, Pre.nil _, World.ownsRow_made w #[] 0 (Nat.le_refl _) (by unfold maxLen; omega) rfl, (Below.refl _ _).alloc (Nat.le_refl _) _⟩
  case round =>
    obtain ⟨pos, k, pre, rfl, hP, hown, hbw⟩ := hrel
    obtain ⟨ao, cv, rfl⟩ := own_shape hown
    have h16 := hP.most
    have hps : pos ≤ s.size := by rw [HL.out]; exact hP.le
    by_cases hp : pos < s.size
    · have C := Lib.hid (fun w => sign_any s pos w HM.out hp)
      have HP := Lib.hid hP
      have HO := Lib.hid hown
      have hpl : pos < s.data.toList.length := by rw [← HL.out]; exact hp
      have HB := Lib.hid (fun hb => hP.bad hpl hb)
      have HST := Lib.hid (fun hz hk h16 => hP.step hz hk h16)
      obtain ⟨sgv, hsgv⟩ : ∃ sgv, sg (s.data.toList.drop pos) = sgv := ⟨_, rfl⟩
      rw [hsgv] at C HB HST
      obtain ⟨wd, lt⟩ := sgv
      have hwl : wd ≠ 0 → pos + wd ≤ s.size := by
        intro h
        have := (sg_pos (t := s.data.toList.drop pos) (by rw [hsgv]; exact h)).1
        rw [hsgv, List.length_drop, ← HL.out] at this
        simp only at this
        omega
      have HW := Lib.hid hwl
      clear hwl hsgv hP hown hpl
      by_cases hw0 : wd = 0
      · subst hw0
        have HF := Lib.hid (csL_none (HB.out (Or.inl rfl)))
        go_wp2_with fail
        refine (C.out _).mono ?_
        rintro e w' ⟨rfl, rfl⟩
        go_wp2_with fail
        go_ret
        refine ⟨.slice none 0 0, rfl, ?_, hbw⟩
        rw [HF.out]; exact World.ownsRow_nil _ _ _ _
      · have d0 : ((wd : Int) == 0) = false := by simpa using hw0
        have hw1 := HW.out hw0
        by_cases hk0 : k = 0
        · subst hk0
          cases lt with
          | false =>
            have HF := Lib.hid (csL_none (HB.out (Or.inr (Or.inl ⟨rfl, rfl⟩))))
            go_wp2_with fail
            refine (C.out _).mono ?_
            rintro e w' ⟨rfl, rfl⟩
            go_wp2_with fail
            go_ret
            refine ⟨.slice none 0 0, rfl, ?_, hbw⟩
            rw [HF.out]; exact World.ownsRow_nil _ _ _ _
          | true =>
            have HF := Lib.hid (HST.out hw0 (fun _ => rfl) (by omega))
            go_wp2_with fail
            refine (C.out _).mono ?_
            rintro e w' ⟨rfl, rfl⟩
            go_wp2_with (at_builtin; go_must (refine wpList_append_own _ rfl _ _ 96 rfl w.heap.size 9 i0 (.string ByteArray.empty) 1 16 Tryz.underlying96 hi hz0 hz1 hz2 rfl (by decide) _ _ _ rfl (HO.out.alloc _) ⟨wr.heap.size, 0, none⟩ 1 1 [.string (s.extract pos (pos + wd))] rfl rfl (cell_one_new _ _ _) (fun x hx => by simp at hx; subst hx; rfl) (by unfold maxLen; omega) (by omega) (by have := hbw.size; simp; omega) ?_; intro v' w3 hown' hgrow3 hnil3))
            go_roundw
            case rel =>
              refine ⟨pos + wd, 1, _, by go_num, HF.out, ?_, ?_⟩
              · rw [List.map_append]
                have e : strV ((s.data.toList.drop pos).take wd) = .string (s.extract pos (pos + wd)) := by
                  unfold strV; rw [Lib.extract_eq]; simp
                simp only [List.map_cons, List.map_nil, e]
                exact hown'
              · exact ((hbw.alloc hbw.size _).grown hgrow3 (by have := hbw.size; simp; omega) (fun k hk => (HO.out.lt k hk).1))
            case measure => simp [intOf]; omega
        · have d1 : ((k : Int) == 0) = false := by simpa using hk0
          by_cases hk16 : k = 16
          · have d2 : ((k : Int) == 16) = true := by simp; omega
            have HF := Lib.hid (csL_none (HB.out (Or.inr (Or.inr hk16))))
            clear hk16
            go_wp2_with fail
            refine (C.out _).mono ?_
            rintro e w' ⟨rfl, rfl⟩
            go_wp2_with fail
            go_ret
            refine ⟨.slice none 0 0, rfl, ?_, hbw⟩
            rw [HF.out]; exact World.ownsRow_nil _ _ _ _
          · have d2 : ((k : Int) == 16) = false := by simp; omega
            have HF := Lib.hid (HST.out hw0 (fun h => absurd h hk0) hk16)
            go_wp2_with fail
            refine (C.out _).mono ?_
            rintro e w' ⟨rfl, rfl⟩
            go_wp2_with (at_builtin; go_must (refine wpList_append_own _ rfl _ _ 96 rfl w.heap.size 9 i0 (.string ByteArray.empty) 1 16 Tryz.underlying96 hi hz0 hz1 hz2 rfl (by decide) _ _ _ rfl (HO.out.alloc _) ⟨wr.heap.size, 0, none⟩ 1 1 [.string (s.extract pos (pos + wd))] rfl rfl (cell_one_new _ _ _) (fun x hx => by simp at hx; subst hx; rfl) (by unfold maxLen; omega) (by omega) (by have := hbw.size; simp; omega) ?_; intro v' w3 hown' hgrow3 hnil3))
            go_roundw
            case rel =>
              refine ⟨pos + wd, k + 1, _, by go_num, HF.out, ?_, ?_⟩
              · rw [List.map_append]
                have e : strV ((s.data.toList.drop pos).take wd) = .string (s.extract pos (pos + wd)) := by
                  unfold strV; rw [Lib.extract_eq]; simp
                simp only [List.map_cons, List.map_nil, e]
                exact hown'
              · exact ((hbw.alloc hbw.size _).grown hgrow3 (by have := hbw.size; simp; omega) (fun k hk => (HO.out.lt k hk).1))
            case measure => simp [intOf]; omega
    · have HF := Lib.hid (csL_fin hP (by rw [← HL.out]; exact hp))
      have HO := Lib.hid hown
      have HN := Lib.hid hP.len
      clear hP hown
      go_wp2_with fail
      go_ret
      refine ⟨_, rfl, ?_, hbw⟩
      rw [HF.out, HN.out]
      exact HO.out


theorem refRight_any (s : ByteArray) (w : World) (hs : s.size ≤ maxLen) : Calls Tryz.prog 40 #[.string s] w fun e w' => e = .returned (.bool (rightB s.data.toList)) ∧ Below w.heap.size w w' := by
  have C := Lib.hid (fun w => refSigns_any s w hs)
  have HR := Lib.hid (csL_right s.data.toList)
  go_enter Tryz.func40, Tryz.ntmps40
  go_wp2_with fail
  refine (C.out _).mono ?_
  rintro e w1 ⟨v, rfl, o1, b1⟩
  obtain ⟨a, cap, rfl⟩ := own_shape o1
  clear o1
  go_wp2_with fail
  go_ret
  exact ⟨ret_bool HR.out, b1⟩
end

/- MgLines: Lines, and what comes in. -/
section
/- LnPlain: Plain facts on lines, as lists: which can be, each thing once, without some pieces: no program is walked here. -/
section
theorem kcmp_three (a b : ByteArray) : kcmp a b = -1 ∨ kcmp a b = 0 ∨ kcmp a b = 1 := cmpL_three _ _
end

/- LnMem: Slices of lines in memory; what isLine, find$1, Pieces$1 and Weight$1 of package lines answer of one line. -/
section
set_option maxRecDepth 100000
open Go.RowKit

theorem refCmp_any (a b : ByteArray) (w : World) (ha : a.size ≤ maxLen) (hb : b.size ≤ maxLen) : Calls Tryz.prog 59 #[.string a, .string b] w fun e w' => e = .returned (.int .i64 (kcmp a b)) ∧ Below w.heap.size w w' := refCompare_any a b w ha hb

end

/- LnRight: What Right of package lines answers, at every slice of lines. -/
section
set_option maxRecDepth 100000
open Go.RowKit

theorem lineB_false {x : Ln} (h : lineB x = false) : rightB x.sku.data.toList = false ∨ rightB x.sku.data.toList = true ∧ (x.qty < 1 ∨ 1 ≤ x.qty ∧ (1000 < x.qty ∨ x.qty ≤ 1000 ∧ (x.wt < 0 ∨ 0 ≤ x.wt ∧ 100000 < x.wt))) := by
  cases hr : rightB x.sku.data.toList with
  | false => exact Or.inl rfl
  | true =>
    refine Or.inr ⟨rfl, ?_⟩
    simp only [lineB, hr, Bool.true_and, decide_eq_false_iff_not] at h
    omega

set_option maxHeartbeats 4000000 in
theorem refRight15_any (a : Option Addr) (cap : Nat) (l : List Ln) (w : World) (h : LnsP w a cap l) (hm : l.length ≤ maxLen) :
    Calls Tryz.prog 41 #[.slice a l.length cap] w fun e w' => e = .returned (.bool (rightLB l)) ∧ Below w.heap.size w w' := by
  have H := Lib.hid h
  clear h
  unfold maxLen at hm
  by_cases h1 : 1 ≤ l.length
  · by_cases h8 : l.length ≤ 8
    · have HR := Lib.hid (show rightLB l = goodFrom (prevAt l 0) (l.drop 0) by simp [rightLB, h1, h8, prevAt])
      have e1 : decide ((l.length : Int) < 1) = false := by simp; omega
      have e2 : decide (8 < (l.length : Int)) = false := by simp; omega
      go_enter Tryz.func41, Tryz.ntmps41
      go_wp2_with fail
      go_loopw [15] (fun i wr => ∃ (k : Nat), k ≤ l.length ∧ i = .int .i64 k ∧ Hid (rightLB l = goodFrom (prevAt l k) (l.drop k)) ∧ Below w.heap.size w wr) (fun i _ => l.length - (intOf i).toNat)
      case atStart => exact ⟨0, Nat.zero_le _, rfl, HR, Below.refl _ _⟩
      case round =>
        obtain ⟨k, hk, rfl, HK, hbw⟩ := hrel
        by_cases hlt : k < l.length
        · have HL := Lib.hid (H.out.below hbw)
          obtain ⟨b, o, ea, hb, c1, c2, c3, hsz⟩ := HL.out.at k hlt
          subst ea
          have p1 := H.out.cap
          have HS := Lib.hid (goodFrom_step l k hlt)
          have C := Lib.hid (fun w => refRight_any l[k].sku w hsz)
          have HX := Lib.hid (show ∀ j, k = j + 1 → ∃ hj : j < l.length, prevAt l k = some l[j] ∧ wr.cell? ⟨b, o + j * 3, none⟩ = some (.string l[j].sku) ∧ l[j].sku.size ≤ maxLen by
            intro j hj
            subst hj
            have hj' : j < l.length := by omega
            obtain ⟨b', o', e, _, q1, _, _, q4⟩ := HL.out.at j hj'
            injection e with e
            injection e with ea eo
            subst ea eo
            exact ⟨hj', prevAt_pos hj', q1, q4⟩)
          have HSZ := Lib.hid hsz
          clear hsz
          generalize l[k] = x at *
          have hbw1 := hbw.alloc hbw.size (Obj.cells #[Value.string x.sku, Value.int IntKind.i64 x.qty, Value.int IntKind.i64 x.wt] 72)
          have d0 : (wr.alloc (Obj.cells #[Value.string x.sku, Value.int IntKind.i64 x.qty, Value.int IntKind.i64 x.wt] 72)).cell? ⟨wr.heap.size, 0, none⟩ = some (.string x.sku) := by simp
          have d1 : (wr.alloc (Obj.cells #[Value.string x.sku, Value.int IntKind.i64 x.qty, Value.int IntKind.i64 x.wt] 72)).cell? ⟨wr.heap.size, 1, none⟩ = some (.int .i64 x.qty) := by simp
          have d2 : (wr.alloc (Obj.cells #[Value.string x.sku, Value.int IntKind.i64 x.qty, Value.int IntKind.i64 x.wt] 72)).cell? ⟨wr.heap.size, 2, none⟩ = some (.int .i64 x.wt) := by simp
          have hz : wr.heap.size < (wr.alloc (Obj.cells #[Value.string x.sku, Value.int IntKind.i64 x.qty, Value.int IntKind.i64 x.wt] 72)).heap.size := by simp
          have D := Lib.hid (And.intro d0 (And.intro d1 (And.intro d2 hz)))
          have BA := Lib.hid (show Below wr.heap.size wr (wr.alloc (Obj.cells #[Value.string x.sku, Value.int IntKind.i64 x.qty, Value.int IntKind.i64 x.wt] 72)) from (Below.refl _ _).alloc (Nat.le_refl _) _)
          clear d0 d1 d2 hz
          cases hlb : lineB x with
          | false =>
            have HE := Lib.hid (show rightLB l = false by rw [HK.out, HS.out, hlb]; rfl)
            rcases lineB_false hlb with h0 | ⟨h0, h0' | ⟨h1', h0' | ⟨h2', h0' | ⟨h3', h0'⟩⟩⟩⟩
            all_goals
              rw [h0] at C
              clear hlb h0
              go_wp2_with fail
              generalize wr.alloc (Obj.cells #[Value.string x.sku, Value.int IntKind.i64 x.qty, Value.int IntKind.i64 x.wt] 72) = W1 at *
              refine (C.out _).mono ?_
              rintro e w1 ⟨rfl, b1⟩
              have b2 := hbw1.trans (b1.mono hbw1.size)
              have e3 := (b1.cell (p := ⟨wr.heap.size, 1, none⟩) D.out.2.2.2).trans D.out.2.1
              have e4 := (b1.cell (p := ⟨wr.heap.size, 2, none⟩) D.out.2.2.2).trans D.out.2.2.1
              go_wp2_with fail
              go_ret
              exact ⟨by rw [HE.out]; rfl, b2⟩
          | true =>
            obtain ⟨hr0, hx1, hx2, hx3, hx4⟩ := lineB_of hlb
            rw [hr0] at C
            have HLB := Lib.hid hlb
            clear hlb hr0
            go_wp2_with fail
            generalize wr.alloc (Obj.cells #[Value.string x.sku, Value.int IntKind.i64 x.qty, Value.int IntKind.i64 x.wt] 72) = W1 at *
            refine (C.out _).mono ?_
            rintro e w1 ⟨rfl, b1⟩
            have b2 := hbw1.trans (b1.mono hbw1.size)
            have e3 := (b1.cell (p := ⟨wr.heap.size, 1, none⟩) D.out.2.2.2).trans D.out.2.1
            have e4 := (b1.cell (p := ⟨wr.heap.size, 2, none⟩) D.out.2.2.2).trans D.out.2.2.1
            have D2 := Lib.hid (And.intro ((b1.cell (p := ⟨wr.heap.size, 0, none⟩) D.out.2.2.2).trans D.out.1) (Nat.lt_of_lt_of_le D.out.2.2.2 b1.size))
            have D3 := Lib.hid (show ∀ o v, wr.cell? ⟨b, o, none⟩ = some v → w1.cell? ⟨b, o, none⟩ = some v from fun o v h => (b1.cell (p := ⟨b, o, none⟩) (Nat.lt_of_lt_of_le hb BA.out.size)).trans ((BA.out.cell (p := ⟨b, o, none⟩) hb).trans h))
            have hb1 : b < w1.heap.size := Nat.lt_of_lt_of_le hb (Nat.le_trans BA.out.size b1.size)
            by_cases hk0 : 0 < k
            · obtain ⟨j, rfl⟩ : ∃ j, k = j + 1 := ⟨k - 1, by omega⟩
              obtain ⟨hj, hp, hc, hjs⟩ := HX.out j rfl
              have CC := Lib.hid (fun w => refCmp_any l[j].sku x.sku w hjs HSZ.out)
              generalize l[j] = y at *
              have D4 := Lib.hid (And.intro hb1 (D3.out _ _ hc))
              clear hc hjs
              have h3 := kcmp_three y.sku x.sku
              cases hq : decide (kcmp y.sku x.sku < 0) with
              | false =>
                have HE := Lib.hid (show rightLB l = false by rw [HK.out, HS.out, HLB.out, hp, behindB]; simp only [hq]; rfl)
                have hq3 : (kcmp y.sku x.sku != -1) = true := by simp at hq ⊢; omega
                clear hq hp h3
                generalize kcmp y.sku x.sku = c at *
                go_wp2_with fail
                clear e3 e4
                have f1 := far_cell D2.out.2 D2.out.1
                have f4 := far_cell D4.out.1 D4.out.2
                refine wp_region_far (by kernel_rfl) (by kernel_rfl) ?_
                repeat (first | go_big_quiet_step ((go_at_call 59; exact calls_far (CC.out _))) | quiet_step ((go_at_call 59; exact calls_far (CC.out _))))
                refine wpQuiet_nil ?_
                intro _ hw'
                obtain ⟨p, hw''⟩ := hw'
                subst hw''
                go_wp2_with fail
                go_ret
                exact ⟨by rw [HE.out]; rfl, b2.trans ((far_below _ _).mono b2.size)⟩
              | true =>
                have HE := Lib.hid (show rightLB l = goodFrom (prevAt l (j + 1 + 1)) (l.drop (j + 1 + 1)) by rw [HK.out, HS.out, HLB.out, hp, behindB]; simp only [hq]; rfl)
                have hq3 : (kcmp y.sku x.sku != -1) = false := by simp at hq ⊢; omega
                clear hq hp h3
                generalize kcmp y.sku x.sku = c at *
                go_wp2_with fail
                clear e3 e4
                have f1 := far_cell D2.out.2 D2.out.1
                have f4 := far_cell D4.out.1 D4.out.2
                refine wp_region_far (by kernel_rfl) (by kernel_rfl) ?_
                repeat (first | go_big_quiet_step ((go_at_call 59; exact calls_far (CC.out _))) | quiet_step ((go_at_call 59; exact calls_far (CC.out _))))
                refine wpQuiet_nil ?_
                intro _ hw'
                obtain ⟨p, hw''⟩ := hw'
                subst hw''
                go_wp2_with fail
                go_roundw
                case rel => exact ⟨j + 1 + 1, by omega, by go_num, HE, b2.trans ((far_below _ _).mono b2.size)⟩
                case measure => simp [intOf]; omega
            · have HP := Lib.hid (show prevAt l k = none by simp [prevAt]; omega)
              have HE := Lib.hid (show rightLB l = goodFrom (prevAt l (k + 1)) (l.drop (k + 1)) by rw [HK.out, HS.out, HLB.out, HP.out]; rfl)
              go_wp2_with fail
              clear e3 e4
              have f1 := far_cell D2.out.2 D2.out.1
              refine wp_region_far (by kernel_rfl) (by kernel_rfl) ?_
              repeat (first | go_big_quiet_step (fail) | quiet_step (fail))
              refine wpQuiet_nil ?_
              intro _ hw'
              obtain ⟨p, hw''⟩ := hw'
              subst hw''
              go_wp2_with fail
              go_roundw
              case rel => exact ⟨k + 1, by omega, by go_num, HE, b2.trans ((far_below _ _).mono b2.size)⟩
              case measure => simp [intOf]; omega
        · have HE := Lib.hid (show rightLB l = true by rw [HK.out, List.drop_eq_nil_of_le (by omega)]; rfl)
          go_wp2_with fail
          go_ret
          exact ⟨by rw [HE.out]; rfl, hbw⟩
    · have HE := Lib.hid (show rightLB l = false by simp [rightLB, h8])
      go_enter Tryz.func41, Tryz.ntmps41
      go_wp2_with fail
      go_ret
      exact ⟨by rw [HE.out]; rfl, Below.refl _ _⟩
  · have HE := Lib.hid (show rightLB l = false by simp [rightLB, h1])
    go_enter Tryz.func41, Tryz.ntmps41
    go_wp2_with fail
    go_ret
    exact ⟨by rw [HE.out]; rfl, Below.refl _ _⟩
end

/- LnSum: What lines weigh: Weight of package lines, and the document's. -/
section
set_option maxRecDepth 100000
open Go.RowKit

end

/- LnOwn: Rows of lines that a call has made for itself; lines put behind lines in such a row. -/
section
set_option maxRecDepth 100000
open Go.RowKit Go.Lib

theorem wpList_append_lines {w : World} {ops : Array Oper} {rest : List Oper} {o : Oper} {a : Act} {Q : Exit → Act → World → Prop} (hgd : o.guard = none) (s x : Operand)
    (ho : o.op = .call { callee := .builtin .append, args := #[s, x], argTypes := #[22, 22] }) (base : Nat) (v : Value) (xs ys : List Ln) (hs : a.eval s = v) (hown : OwnL w base v xs) (A : Option Addr) (cA : Nat)
    (hx : a.eval x = .slice A ys.length cA) (hy : LnsP w A cA ys) (hlen : xs.length + ys.length ≤ 1000000) (hb : base ≤ w.heap.size)
    (h : ∀ v' w', OwnL w' base v' (xs ++ ys) → w.grownBy w' v.ownBlock → wpList Tryz.prog ops Q rest (a.put o.dst v') w') : wpList Tryz.prog ops Q (o :: rest) a w :=
  wpList_plain hgd fun _ hK => wp_append_lines s x ho base v xs ys hs hown A cA hx hy hlen hb fun v' w' h1 h2 => hK _ _ (h v' w' h1 h2)

end

/- ScPlain: Plain facts on bytes that are read on, number by number and text by text: what is written is read, and what is read is as it would be written. -/
section
set_option maxRecDepth 100000

end

/- ScLeaf: What Right of package tally answers, the document's Right of numbers and Group; three texts in a block. -/
section
set_option maxRecDepth 100000
open Go.RowKit

set_option maxHeartbeats 1000000 in
theorem refTally_any (n : Int) (w : World) : Calls Tryz.prog 43 #[.int .i64 n] w (BoolSame (tallyB n) w) := by
  have HE := Lib.hid (show tallyB n = (decide (0 ≤ n) && decide (n ≤ 1000000000000)) by rw [Bool.eq_iff_iff]; simp [tallyB])
  cases h1 : decide (0 ≤ n) <;> cases h2 : decide (n ≤ 1000000000000)
  all_goals
    rw [h1, h2] at HE
    go_enter Tryz.func43, Tryz.ntmps43
    go_wp2_with fail
    go_ret
    exact ⟨by rw [HE.out]; rfl, rfl⟩
set_option maxHeartbeats 2000000 in
theorem refGroup_any (a b c : ByteArray) (w : World) (ha : a.size ≤ maxLen) (hb : b.size ≤ maxLen) (hc : c.size ≤ maxLen) : Calls Tryz.prog 42 #[.agg #[.string a, .string b, .string c]] w (Tell (groupB a b c) w) := by
  have C1 : Hid (∀ w, Calls Tryz.prog 40 #[.string a] w (Tell (rightT a) w)) := Lib.hid (fun w => refRight_any a w ha)
  have C2 : Hid (∀ w, Calls Tryz.prog 40 #[.string b] w (Tell (rightT b) w)) := Lib.hid (fun w => refRight_any b w hb)
  have C3 : Hid (∀ w, Calls Tryz.prog 40 #[.string c] w (Tell (rightT c) w)) := Lib.hid (fun w => refRight_any c w hc)
  have D := Lib.hid (GrB.new w a b c)
  have B := Lib.hid ((Below.refl w.heap.size w).alloc (Nat.le_refl _) (Obj.cells #[Value.string a, Value.string b, Value.string c] 24))
  have HE := Lib.hid (show groupB a b c = (rightT a && (rightT b && rightT c)) from rfl)
  clear ha hb hc
  go_enter Tryz.func42, Tryz.ntmps42
  go_wp2_with fail
  refine (C1.out _).mono ?_
  rintro e w1 ⟨rfl, b1⟩
  generalize w.alloc (Obj.cells #[Value.string a, Value.string b, Value.string c] 24) = W at *
  have D1 := Lib.hid (D.out.below b1)
  have B1 := Lib.hid (B.out.trans (b1.mono B.out.size))
  obtain ⟨c0, c1, c2⟩ := D1.out.cells
  clear b1
  cases h1 : rightT a with
  | false =>
    go_wp2_with fail
    go_ret
    exact ⟨by rw [HE.out, h1]; rfl, B1.out⟩
  | true =>
    go_wp2_with fail
    refine (C2.out _).mono ?_
    rintro e w2 ⟨rfl, b2⟩
    have D2 := Lib.hid (D1.out.below b2)
    have B2 := Lib.hid (B1.out.trans (b2.mono B1.out.size))
    clear c0 c1 c2 b2
    obtain ⟨c0, c1, c2⟩ := D2.out.cells
    cases h2 : rightT b with
    | false =>
      go_wp2_with fail
      go_ret
      exact ⟨by rw [HE.out, h1, h2]; rfl, B2.out⟩
    | true =>
      go_wp2_with fail
      refine (C3.out _).mono ?_
      rintro e w3 ⟨rfl, b3⟩
      have B3 := Lib.hid (B2.out.trans (b3.mono B2.out.size))
      clear c0 c1 c2 b3
      go_wp2_with fail
      go_ret
      exact ⟨by rw [HE.out, h1, h2]; rfl, B3.out⟩
end

/- ScArgs: What came in as bytes, as texts, as a group. -/
section
set_option maxRecDepth 100000
open Go.ChangeShapes Go.WideShapes Go.ChangeAt Go.RowKit

theorem laidOut : laidOutB Tryz.prog = true := by kernel_rfl
theorem cells5 : Tryz.prog.cellsOf 5 = 1 := by kernel_rfl
theorem bytes_cells {H : Type} {enc : TypeId × Value → H} {W : World} {fuel : Nat} {cs : List Value} {x : DataW H × List MemPlace}
    (hf : DataW.trod enc Tryz.prog W 0 (fun _ => true) true fuel 40 cs = some x) : ∃ a cap l, cs = [.slice a l.length cap] ∧ BytesP W a cap l ∧ l.length ≤ maxLen := by
  rcases open_ints Tryz.underlying40 Tryz.underlying5 cells5 hf with ⟨rfl, hx⟩ | ⟨a, len, cap, zs, rfl, _, hl, hm, hz, hx, hcell, hws⟩
  · exact ⟨none, 0, [], rfl, BytesP.nil _ _ _, by simp⟩
  · simp only [if_true] at hz
    have hlen : ((zs.take len).map Int.toNat).length = len := by rw [List.length_map, List.length_take]; omega
    have hmm : maxLen = 9223372036854775807 := rfl
    refine ⟨_, cap, (zs.take len).map Int.toNat, by rw [hlen], ⟨by omega, by omega, fun b hb => ?_, fun hne => ?_⟩, by omega⟩
    · obtain ⟨z, hz1, rfl⟩ := List.mem_map.1 hb
      have := bounds_u8 (hws z (List.mem_of_mem_take hz1))
      omega
    have hpos : 0 < len := by
      rcases Nat.eq_zero_or_pos len with h | h
      · subst h; simp at hne
      · exact h
    obtain ⟨b, off, spot⟩ := a
    have hspot : spot = none := by simpa [Addr.add] using World.cell?_spot (hcell 0 (by omega))
    subst hspot
    have hc0 := hcell 0 (by omega)
    refine ⟨b, off, rfl, ?_, fun j x hj => ?_⟩
    · have := World.block_lt_of_cell? W _ hc0
      simpa [Addr.add] using this
    · have hj2 := (List.getElem?_eq_some_iff.1 hj).1
      rw [List.length_map, List.length_take] at hj2
      rw [← Go.WideShapes.add_plain, hcell j (by omega)]
      rw [List.getElem?_map, List.getElem?_take] at hj
      have hjl : j < zs.length := by omega
      rw [if_pos (by omega), List.getElem?_eq_getElem hjl, Option.map_some, Option.some.injEq] at hj
      subst hj
      have := bounds_u8 (hws zs[j] (List.getElem_mem hjl))
      rw [List.getD_eq_getElem?_getD, List.getElem?_eq_getElem hjl]
      simp only [Option.getD_some]
      rw [Int.toNat_of_nonneg this.1]
theorem bytes_of_trod {H : Type} {enc : TypeId × Value → H} {W : World} {base : Nat} {v : Value} {d : DataW H} {p : List MemPlace}
    (hv : Value.okWide Tryz.prog W .any base 40 v) (h : DataW.Trod enc Tryz.prog W 0 (fun _ => true) true 40 v d p) : ∃ a cap l, v = .slice a l.length cap ∧ BytesP W a cap l ∧ l.length ≤ maxLen := by
  obtain ⟨a0, len, cap, rfl⟩ := okWide_slice Tryz.underlying40 hv
  obtain ⟨fuel, hf⟩ := h
  obtain ⟨a, cap', l, e, hB, hl⟩ := bytes_cells hf
  simp [Value.cells] at e
  obtain ⟨rfl, rfl, rfl⟩ := e
  exact ⟨_, _, l, rfl, hB, hl⟩
end

/- SlArgs: Slices of structs that came in. -/
section
set_option maxRecDepth 100000
open Go.ChangeShapes Go.WideShapes Go.ChangeAt Go.RowKit

end
end

/- MgOrders: Orders. -/
section
/- OrPlain: Plain facts on orders: which can be, their bytes, and what bytes are read as; each order's bytes are read as that order, and none but these. -/
section
end

/- OrLeaf: What the small tests of package order, Right of package tally and the document's answer. -/
section
set_option maxRecDepth 100000
open Go.RowKit

end

/- OrRight: What Right of package order, and the document's, answer, at every order. -/
section
set_option maxRecDepth 100000
open Go.RowKit

end

/- OrArgs: What came in as bytes, lines, an order. -/
section
set_option maxRecDepth 100000
open Go.ChangeShapes Go.WideShapes Go.ChangeAt Go.RowKit

end

/- OrRight2: What the document's Right answers, at every order. -/
section
set_option maxRecDepth 100000
open Go.RowKit

end

/- OrSame: What Same of package order, and the document's, answer, at any two orders. -/
section
set_option maxRecDepth 100000
open Go.RowKit

set_option maxHeartbeats 2000000 in
theorem refSame_any (a1 a2 : Option Addr) (c1 c2 : Nat) (l m : List Ln) (w : World) (h1 : LnsP w a1 c1 l) (h2 : LnsP w a2 c2 m) (hl : l.length ≤ maxLen) (_hm : m.length ≤ maxLen) :
    Calls Tryz.prog 45 #[.slice a1 l.length c1, .slice a2 m.length c2] w (Tell (sameL l m) w) := by
  have H1 := Lib.hid h1
  have H2 := Lib.hid h2
  clear h1 h2
  unfold maxLen at hl
  by_cases hq : l.length = m.length
  rotate_left
  · have HE := Lib.hid (show sameL l m = false from sameL_len hq)
    go_enter Tryz.func45, Tryz.ntmps45
    go_wp2_with fail
    go_ret
    exact ⟨by rw [HE.out]; rfl, Below.refl _ _⟩
  · have HQ := Lib.hid hq
    rw [← hq]
    clear hq
    go_enter Tryz.func45, Tryz.ntmps45
    go_wp2_with fail
    go_loopw [13] (fun i wr => ∃ k : Nat, k ≤ l.length ∧ i = .int .i64 k ∧ Hid (sameL l m = sameL (l.drop k) (m.drop k)) ∧ Below w.heap.size w wr) (fun i _ => l.length - (intOf i).toNat)
    case atStart => exact ⟨0, Nat.zero_le _, rfl, rfl, Below.refl _ _⟩
    case round =>
      obtain ⟨k, hk, rfl, HK, hbw⟩ := hrel
      by_cases hlt : k < l.length
      · have hltm : k < m.length := by rw [← HQ.out]; exact hlt
        obtain ⟨b1, o1, rfl, q1, r1, r2, r3, _⟩ := (H1.out.below hbw).at k hlt
        obtain ⟨b2, o2, rfl, q2, s1, s2, s3, _⟩ := (H2.out.below hbw).at k hltm
        have p1 := H1.out.cap
        have p2 := H2.out.cap
        rw [← HQ.out] at p2
        have hn := neq_ln l[k] m[k]
        have HS := Lib.hid (sameL_step l m k hlt hltm)
        unfold lnEq at HS
        generalize l[k] = x at *
        generalize m[k] = y at *
        cases hb : ((x.sku.toList == y.sku.toList) && ((x.qty == y.qty) && (x.wt == y.wt))) with
        | true =>
          rw [hb] at HS hn
          have HE := Lib.hid (show sameL l m = sameL (l.drop (k + 1)) (m.drop (k + 1)) by rw [HK.out, HS.out]; rfl)
          clear hb
          go_wp2_with fail
          go_quiet (fail)
          go_wp2_with fail
          go_roundw
          case rel => exact ⟨k + 1, by omega, by go_num, HE, below_drewN hbw _⟩
          case measure => simp [intOf]; omega
        | false =>
          rw [hb] at HS hn
          have HE := Lib.hid (show sameL l m = false by rw [HK.out, HS.out]; rfl)
          clear hb
          go_wp2_with fail
          go_quiet (fail)
          go_wp2_with fail
          go_ret
          exact ⟨by rw [HE.out]; rfl, below_drewN hbw _⟩
      · have HE := Lib.hid (show sameL l m = true by rw [HK.out, List.drop_eq_nil_of_le (by omega), List.drop_eq_nil_of_le (by rw [← HQ.out]; omega)]; rfl)
        go_wp2_with fail
        go_ret
        exact ⟨by rw [HE.out]; rfl, hbw⟩


end
end

/- MgStates: States: held against each other, coming in, made; what follows of their rules. -/
section
/- StSame: What the document's Same of layer 15 answers: two states held against each other. -/
section
set_option maxRecDepth 100000
open Go.RowKit Go.ChangeShapes Go.WideShapes Go.ChangeAt
attribute [local go_sem ↓] ldOr stOr alOr bxOr bdOr ldBa stBa alBa bxBa bdBa ldSt stSt alSt bxSt bdSt ldEf stEf alEf bxEf eqEf bdEf bsEf ldGr bxGr eqGr ldCa bxCa eqCa
attribute [local go_sem] al_or bx_or st_ornew bd_or al_ba bx_ba st_banew bd_ba al_sta bx_sta st_stnew bd_sta al_ef bx_ef st_new bd_ef bs_ef bs_ef0 bx_gr ne_gr bx_ca ne_ca eq_caX

end

/- StNew: What the document's New of layer 15 answers. -/
section
set_option maxRecDepth 100000
open Go.RowKit Go.ChangeShapes Go.WideShapes Go.ChangeAt
attribute [local go_sem ↓] ldOr stOr alOr bxOr bdOr ldBa stBa alBa bxBa bdBa ldSt stSt alSt bxSt bdSt ldEf stEf alEf bxEf eqEf bdEf bsEf ldGr bxGr eqGr ldCa bxCa eqCa
attribute [local go_sem] al_or bx_or st_ornew bd_or al_ba bx_ba st_banew bd_ba al_sta bx_sta st_stnew bd_sta al_ef bx_ef st_new bd_ef bs_ef bs_ef0 bx_gr ne_gr bx_ca ne_ca

end

/- StArgs: What came in as a state, as two caps, as numbers. -/
section
set_option maxRecDepth 100000
open Go.ChangeShapes Go.WideShapes Go.ChangeAt Go.RowKit

end

/- StGreat: The laws' bound on states. -/
section
set_option maxRecDepth 100000
open Go.RowKit Go.ChangeShapes Go.WideShapes Go.ChangeAt
attribute [local go_sem ↓] ldOr stOr alOr bxOr bdOr ldBa stBa alBa bxBa bdBa ldSt stSt alSt bxSt bdSt ldEf stEf alEf bxEf eqEf bdEf bsEf ldGr bxGr eqGr
attribute [local go_sem] al_or bx_or st_ornew bd_or al_ba bx_ba st_banew bd_ba al_sta bx_sta st_stnew bd_sta al_ef bx_ef st_new bd_ef bs_ef bs_ef0 bx_gr ne_gr

end

/- StHung: Plain facts on a state that hangs together: who is found, what is held. -/
section
set_option maxRecDepth 100000

end

/- StCon: What package state's calls answer, as the laws want it. -/
section
set_option maxRecDepth 100000
open Go.RowKit Go.ChangeShapes Go.WideShapes Go.ChangeAt

end

/- StAlive: The chapter's example. -/
section
set_option maxRecDepth 100000
open Go.RowKit Go.ChangeShapes Go.WideShapes Go.ChangeAt
attribute [local go_sem ↓] ldOr stOr alOr bxOr bdOr ldBa stBa alBa bxBa bdBa ldSt stSt alSt bxSt bdSt ldEf stEf alEf bxEf eqEf bdEf bsEf ldGr bxGr eqGr ldCa bxCa eqCa
attribute [local go_sem] al_or bx_or st_ornew bd_or al_ba bx_ba st_banew bd_ba al_sta bx_sta st_stnew bd_sta al_ef bx_ef st_new bd_ef bs_ef bs_ef0 bx_gr ne_gr bx_ca ne_ca eq_caX

theorem results_cell_alone {fn : Func} {p : Tmp} {ty : TypeId} (h : fn.results = #[.cell p ty]) (tmps : Array Value) (w : World) (g : Nat) (cs : Array Value)
    (hp : tmps.getD p undef = .pointer (some ⟨g, 0, none⟩)) (hl : (loadVar ty ⟨g, 0, none⟩).run Tryz.prog w = .ok (.agg cs) w) :
    (results fn tmps).run Tryz.prog w = .ok (.agg cs) w := by
  have hp' : tmps[p]?.getD undef = .pointer (some ⟨g, 0, none⟩) := by simpa using hp
  simp [results, h, hp', asAddr, hl]
section
variable (ev : Operand → Value) (d : Option Tmp) (ty : TypeId) (pos : String) (af : Array Edge) (gd : Option (Nat × Bool)) (w : World)
end
attribute [local go_sem ↓] bsOr
attribute [local go_sem] bd_odA bs_odA bd_efA

end

/- StMust: Plain facts on effects: what must be asked is just what is asked. -/
section
set_option maxRecDepth 100000

end

/- StCount: Plain facts on counting what is needed against what is asked. -/
section
set_option maxRecDepth 100000

end

/- StBreak: Plain facts: a state that hangs together doesn't any more without one of its effects, or with an order in the next phase. -/
section
set_option maxRecDepth 100000

end

/- StHeld: Rows of numbers of 64 bits of the call's own; what the document's Held of layer 15 answers. -/
section
set_option maxRecDepth 100000
open Go.RowKit Go.ChangeShapes Go.WideShapes Go.ChangeAt
attribute [local go_sem ↓] ldOr stOr alOr bxOr bdOr ldBa stBa alBa bxBa bdBa ldSt stSt alSt bxSt bdSt ldEf stEf alEf bxEf eqEf bdEf bsEf ldGr bxGr eqGr ldCa bxCa eqCa
attribute [local go_sem] al_or bx_or st_ornew bd_or al_ba bx_ba st_banew bd_ba al_sta bx_sta st_stnew bd_sta al_ef bx_ef st_new bd_ef bs_ef bs_ef0 bx_gr ne_gr bx_ca ne_ca eq_grX

end
end

/- BkRead: What number of package packet, and the document's Take, answer. -/
section
set_option maxRecDepth 100000
open Go.ChangeShapes Go.WideShapes Go.ChangeAt Go.RowKit

/-- How many bytes, as the document has it: 0, if the number has no end yet, -1, if none begins so. -/
def usedOf (r : Nat × Nat × Nat) : Int := if r.2.2 = 0 then (r.2.1 : Int) else if r.2.2 = 61 then 0 else -1

def TakePost (r : Nat × Nat × Nat) (w : World) (e : Ending) (w' : World) : Prop := e = .returned (.tuple #[.int .u64 (r.1 : Int), .int .i64 (usedOf r)]) ∧ w = w'

/-- What the document asks first of a byte. -/
theorem first_asked {k x : Nat} (hk : k ≤ 9) (hx : x < 256) :
    ((k = 9 ∧ 1 < x) ∨ (x = 0 ∧ 0 < k ∧ ¬ (k = 9 ∧ 1 < x))) ∨ ((k = 9 ∧ x = 1) ∨ (k ≠ 9 ∧ x ≠ 0) ∨ (k = 0 ∧ x = 0)) := by omega

set_option maxRecDepth 100000 in
set_option maxHeartbeats 4000000 in
theorem refTake_any (a : Option Addr) (cap : Nat) (l : List Nat) (most : Nat) (w : World) (h : BytesP w a cap l) (hm : most < 18446744073709551616) :
    Calls Tryz.prog 110 #[.slice a l.length cap, .int .u64 (most : Int)] w (TakePost (numAt most 0 0 l) w) := by
  have H := Lib.hid h
  have hl := h.len
  clear h
  go_enter Tryz.func110, Tryz.ntmps110
  go_wp2_with fail
  go_loop [6, 7, 8] (fun s t i => ∃ (k n wt : Nat), k ≤ l.length ∧ k ≤ 9 ∧ i = .int .i64 k ∧ s = .int .u64 n ∧ t = .int .u64 wt ∧ n ≤ most ∧ n < wt ∧ wt ≤ 9223372036854775808 ∧ (k ≤ 8 → wt ≤ 72057594037927936) ∧ Hid (wt = 2 ^ (7 * k)) ∧ Hid (numAt most 0 0 l = numAt most k n (l.drop k))) (fun _ _ i => l.length - (intOf i).toNat)
  case atStart => exact ⟨0, 0, 1, Nat.zero_le _, by decide, rfl, rfl, rfl, Nat.zero_le _, by decide, by decide, fun _ => by decide, Lib.hid rfl, Lib.hid rfl⟩
  case round =>
    obtain ⟨k, n, wt, hk, hk9, rfl, rfl, rfl, hn, hnw, hwt, hwt8, HW, HS⟩ := hrel
    by_cases hlt : k < l.length
    · obtain ⟨b1, o1, rfl, q1, r1⟩ := H.out.cell (by intro e; subst e; simp at hlt)
      have g1 := r1 k _ (List.getElem?_eq_getElem hlt)
      have p1 := H.out.cap
      have hx : l[k] < 256 := H.out.byte _ (List.getElem_mem hlt)
      have HD := Lib.hid (show numAt most 0 0 l = numAt most k n (l[k] :: l.drop (k + 1)) by rw [HS.out, List.drop_eq_getElem_cons hlt])
      generalize l[k] = x at *
      obtain ⟨low, hlow, hlo, HLOW⟩ : ∃ low : Nat, (x : Int) % 128 = (low : Int) ∧ low < 128 ∧ Hid (low = x % 128) := ⟨x % 128, by omega, by omega, rfl⟩
      have hwl : IntKind.u64.wrap (low : Int) = (low : Int) := by rw [IntKind.wrap_u64]; omega
      have HP := Lib.hid (pow7_pos k)
      have h9 : ¬ 9 < k := by omega
      clear r1
      rcases first_asked hk9 hx with hA | hB
      · have HE := Lib.hid (show numAt most 0 0 l = (0, 0, 62) by
          rw [HD.out, numAt_cons]
          split
          · rfl
          · rename_i hq
            rw [Nat.not_lt, Nat.le_div_iff_mul_le HP.out] at hq
            rcases hA with ⟨rfl, h1⟩ | ⟨h1, h2, _⟩
            · simp at hq
              by_cases hx8 : x < 128
              · omega
              · rw [if_neg hx8, if_pos]
                simp
                omega
            · rw [if_pos (by omega), if_pos ⟨h1, h2⟩])
        rcases hA with ⟨h1, h2⟩ | ⟨h1, h2, h3⟩
        · have e9 : ((k : Int) == 9) = true := by simp; omega
          have e1 : decide (1 < (x : Int)) = true := by simp; omega
          clear h1 h2
          go_wp2_with fail
          go_ret2
          exact ⟨by rw [HE.out]; rfl, rfl⟩
        · have e0 : ((x : Int) == 0) = true := by simp; omega
          have e1 : decide (1 < (x : Int)) = false := by simp; omega
          clear h1 h3
          cases e9 : ((k : Int) == 9) <;>
          · go_wp2_with fail
            go_ret2
            exact ⟨by rw [HE.out]; rfl, rfl⟩
      · have HLW := Lib.hid (show low * wt ≤ 9223372036854775808 by
          rcases hB with ⟨_, h2⟩ | ⟨h1, _⟩ | ⟨h1, _⟩
          · have : low = 1 := by rw [HLOW.out, h2]
            rw [this]; omega
          · have h8 := hwt8 (by omega)
            have : low * wt ≤ 127 * 72057594037927936 := Nat.mul_le_mul (by omega) h8
            omega
          · have h8 := hwt8 (by omega)
            have : low * wt ≤ 127 * 72057594037927936 := Nat.mul_le_mul (by omega) h8
            omega)
        obtain ⟨t, ht, htl, HT⟩ : ∃ t : Nat, (low : Int) * (wt : Int) = (t : Int) ∧ t ≤ 9223372036854775808 ∧ Hid (t = low * wt) := ⟨low * wt, by simp, HLW.out, rfl⟩
        obtain ⟨n2, hn2, hn2l, HN2⟩ : ∃ n2 : Nat, (n : Int) + (t : Int) = (n2 : Int) ∧ n2 < 18446744073709551616 ∧ Hid (n2 = n + t) := ⟨n + t, by omega, by omega, rfl⟩
        have HNE := Lib.hid (show n + x % 128 * 2 ^ (7 * k) = n2 by rw [HN2.out, HT.out, HW.out, HLOW.out])
        have HQ := Lib.hid (show (most - n) / 2 ^ (7 * k) < x % 128 ↔ most < n2 by
          rw [← HNE.out]
          have h1 : (x % 128 ≤ (most - n) / 2 ^ (7 * k)) ↔ x % 128 * 2 ^ (7 * k) ≤ most - n := Nat.le_div_iff_mul_le HP.out
          omega)
        have HZ : ¬ (x = 0 ∧ 0 < k) := by omega
        have HZ := Lib.hid HZ
        have HX9 := Lib.hid (show 128 ≤ x → k ≤ 8 by omega)
        have HB := Lib.hid (show ((((k : Int) == 9) = true ∧ decide (1 < (x : Int)) = false ∧ ((x : Int) == 0) = false) ∨ (((k : Int) == 9) = false ∧ ((x : Int) == 0) = false)) ∨ (((k : Int) == 9) = false ∧ ((x : Int) == 0) = true ∧ ¬ 0 < k) by
          simp
          omega)
        clear hB
        by_cases t1 : most < n2
        · have HE := Lib.hid (show numAt most 0 0 l = (0, 0, 62) by rw [HD.out, numAt_cons, if_pos (HQ.out.2 t1)])
          rcases HB.out with (⟨f1, f2, f3⟩ | ⟨f1, f2⟩) | ⟨f1, f2, f3⟩ <;>
          · go_wp2_with fail
            go_ret2
            exact ⟨by rw [HE.out]; rfl, rfl⟩
        · have HD2 := Lib.hid (show numAt most 0 0 l = if x < 128 then (n2, k + 1, 0) else if (most - n2) / 2 ^ (7 * k + 7) = 0 then (0, 0, 62) else numAt most (k + 1) n2 (l.drop (k + 1)) by
            rw [HD.out, numAt_cons, if_neg (fun h => t1 (HQ.out.1 h)), if_neg HZ.out, HNE.out])
          clear HD
          cases t2 : decide ((x : Int) < 128) with
          | true =>
            have HE := Lib.hid (show numAt most 0 0 l = (n2, k + 1, 0) by rw [HD2.out, if_pos (by simp at t2; omega)])
            rcases HB.out with (⟨f1, f2, f3⟩ | ⟨f1, f2⟩) | ⟨f1, f2, f3⟩ <;>
            · go_wp2_with fail
              go_ret2
              exact ⟨by rw [HE.out]; rfl, rfl⟩
          | false =>
            have hx2 : ¬ x < 128 := by simp at t2; omega
            have hk8 := HX9.out (by omega)
            have hw8 := hwt8 hk8
            obtain ⟨d2, hd2, hdl2, HDD2⟩ : ∃ d2 : Nat, (most : Int) - (n2 : Int) = (d2 : Int) ∧ d2 < 18446744073709551616 ∧ Hid (d2 = most - n2) := ⟨most - n2, by omega, by omega, rfl⟩
            obtain ⟨w2, hw2, hw2l, HW2⟩ : ∃ w2 : Nat, (wt : Int) * 128 = (w2 : Int) ∧ w2 ≤ 9223372036854775808 ∧ Hid (w2 = wt * 128) := ⟨wt * 128, by simp, by omega, rfl⟩
            have HWP := Lib.hid (show w2 = 2 ^ (7 * (k + 1)) by rw [HW2.out, HW.out, pow7s, Nat.mul_comm])
            have HZ2 := Lib.hid (show (most - n2) / 2 ^ (7 * k + 7) = 0 ↔ d2 < w2 by
              rw [HDD2.out, HWP.out, show 7 * (k + 1) = 7 * k + 7 by omega, Nat.div_eq_zero_iff_lt (Nat.pos_of_ne_zero (by simp))])
            by_cases t3 : d2 < w2
            · have HE := Lib.hid (show numAt most 0 0 l = (0, 0, 62) by rw [HD2.out, if_neg hx2, if_pos (HZ2.out.2 t3)])
              rcases HB.out with (⟨f1, f2, f3⟩ | ⟨f1, f2⟩) | ⟨f1, f2, f3⟩ <;>
              · go_wp2_with fail
                go_ret2
                exact ⟨by rw [HE.out]; rfl, rfl⟩
            · have HE := Lib.hid (show numAt most 0 0 l = numAt most (k + 1) n2 (l.drop (k + 1)) by rw [HD2.out, if_neg hx2, if_neg (fun h => t3 (HZ2.out.1 h))])
              have HLT := Lib.hid (show n2 < w2 by
                rw [HN2.out, HT.out, HW2.out]
                have : low * wt ≤ 127 * wt := Nat.mul_le_mul_right _ (by omega)
                omega)
              have HW8 := Lib.hid (show k + 1 ≤ 8 → w2 ≤ 72057594037927936 by
                intro h
                rw [HWP.out]
                exact Nat.le_trans (Nat.pow_le_pow_right (n := 2) (by decide) (show 7 * (k + 1) ≤ 56 by omega)) (by decide))
              rcases HB.out with (⟨f1, f2, f3⟩ | ⟨f1, f2⟩) | ⟨f1, f2, f3⟩ <;>
              · go_wp2_with fail
                go_round
                case rel => exact ⟨k + 1, n2, w2, by omega, by omega, by go_num, rfl, rfl, by omega, HLT.out, hw2l, HW8.out, HWP, HE⟩
                case measure => simp [intOf]; omega
    · have HE := Lib.hid (show numAt most 0 0 l = (0, 0, 61) by rw [HS.out, List.drop_eq_nil_of_le (by omega)]; rfl)
      go_wp2_with fail
      go_ret2
      exact ⟨by rw [HE.out]; rfl, rfl⟩
end

/- ScScan: What Number and Text of the document's Scan answer, as one state that is read on. -/
section
set_option maxRecDepth 100000
open Go.RowKit Go.ChangeShapes Go.WideShapes Go.ChangeAt

theorem BytesP.aside {w w' : World} {a : Option Addr} {cap : Nat} {l : List Nat} {g : Nat} (h : BytesP w a cap l) (hg : l ≠ [] → ∀ b o, a = some ⟨b, o, none⟩ → b < g) (hb : But g w w') : BytesP w' a cap l := by
  refine ⟨h.cap, h.len, h.byte, fun hne => ?_⟩
  obtain ⟨b, o, e, hlt, hc⟩ := h.cell hne
  exact ⟨b, o, e, Nat.lt_of_lt_of_le hlt hb.size, fun j x hx => (World.cell?_of_block (a := ⟨b, o + j, none⟩) (hb.block b hlt (Nat.ne_of_lt (hg hne b o e)))).trans (hc j x hx)⟩

/-- A Scan at block g of which this is left. -/
def SnS (w : World) (g : Nat) (s : Sc) : Prop := ∃ a cap l ok, Row w g 84 #[.slice a (List.length l) cap, .bool ok] ∧ BytesP w a cap l ∧ (l ≠ [] → ∀ b o, a = some ⟨b, o, none⟩ → b < g) ∧ s = if ok then some l else none
/-- This is answered, and the Scan is further on. -/
def ScanS (g : Nat) (v : Value) (s : Sc) (w : World) (e : Ending) (w' : World) : Prop := e = .returned v ∧ SnS w' g s ∧ But g w w'

theorem SnS.lt {w : World} {g : Nat} {s : Sc} (h : SnS w g s) : g < w.heap.size := by
  obtain ⟨_, _, _, _, h, _⟩ := h
  exact h.lt
theorem SnS.below {w w' : World} {g : Nat} {s : Sc} (h : SnS w g s) (hb : Below w.heap.size w w') : SnS w' g s := by
  obtain ⟨a, c, l, ok, h1, h2, h3, h4⟩ := h
  exact ⟨a, c, l, ok, h1.below hb, h2.below hb, h3, h4⟩
theorem SnS.other {w w' : World} {g k : Nat} {s : Sc} (h : SnS w g s) (hk : g < k) (hb : But k w w') : SnS w' g s := by
  obtain ⟨a, c, l, ok, h1, h2, h3, h4⟩ := h
  exact ⟨a, c, l, ok, h1.but hb (by omega), h2.aside (fun hn b o e => Nat.lt_trans (h3 hn b o e) hk) hb, h3, h4⟩
theorem SnS.bytes {w : World} {g : Nat} {s : Sc} (h : SnS w g s) : BytesS s := by
  obtain ⟨a, c, l, ok, h1, h2, h3, rfl⟩ := h
  intro b e
  cases ok with
  | false => cases e
  | true => cases e; exact h2.byte

theorem cellsR2 {w : World} {g : Nat} {T : TypeId} {p q : Value} (h : Row w g T #[p, q]) : (w.cell? ⟨g, 0, none⟩ = some p ∧ w.cell? ⟨g, 1, none⟩ = some q) ∧ w.frozen? ⟨g, 0, none⟩ = false ∧ w.frozen? ⟨g, 1, none⟩ = false :=
  ⟨⟨h.cell 0, h.cell 1⟩, h.free 0, h.free 1⟩

/-- Once it is not Ok, nothing is read. -/
theorem scan_bad {w w' : World} {g : Nat} {a : Option Addr} {cap : Nat} {l : List Nat} {ok : Bool} (h1 : Row w g 84 #[.slice a l.length cap, .bool ok]) (h2 : BytesP w a cap l) (h3 : l ≠ [] → ∀ b o, a = some ⟨b, o, none⟩ → b < g) (e : w' = w.setCell ⟨g, 1, none⟩ (.bool false)) : SnS w' g none ∧ But g w w' := by
  subst e
  have b := (But.refl g w).set 1 (.bool false)
  exact ⟨⟨a, cap, l, false, h1.set 1 _, h2.aside h3 b, h3, rfl⟩, b⟩
theorem scan_on {w w' : World} {g : Nat} {a a' : Option Addr} {cap cap' : Nat} {l l' : List Nat} (h1 : Row w g 84 #[.slice a l.length cap, .bool true]) (h2 : BytesP w a' cap' l') (h3 : l' ≠ [] → ∀ b o, a' = some ⟨b, o, none⟩ → b < g) (e : w' = w.setCell ⟨g, 0, none⟩ (.slice a' l'.length cap')) : SnS w' g (some l') ∧ But g w w' := by
  subst e
  have b := (But.refl g w).set 0 (.slice a' l'.length cap')
  exact ⟨⟨a', cap', l', true, h1.set 0 _, h2.aside h3 b, h3, rfl⟩, b⟩

/-- s[i:] of bytes lies in their block. -/
theorem from_block {a : Option Addr} {cap : Nat} {l : List Nat} (hc : l.length ≤ cap) (k : Nat) (hk : k ≤ l.length) :
    ∃ a' c', (∀ W, (Instr.slice 40 (.slice a l.length cap) (some (.int .i64 (k : Int))) none none).run Tryz.prog W = .ok (.slice a' (l.drop k).length c') W) ∧ (∀ W, BytesP W a cap l → BytesP W a' c' (l.drop k)) ∧ ∀ W g, BytesP W a cap l → (l ≠ [] → ∀ b o, a = some ⟨b, o, none⟩ → b < g) → l.drop k ≠ [] → ∀ b o, a' = some ⟨b, o, none⟩ → b < g := by
  obtain ⟨i0, hi0, hz0, hzs, hzb⟩ := info_parts Tryz.info5
  refine ⟨if cap = k then a else a.map (·.add k), cap - k, fun W => ?_, fun W h => ⟨by rw [List.length_drop]; omega, by have := h.len; rw [List.length_drop]; omega, fun b hb => h.byte b (List.mem_of_mem_drop hb), fun hne => ?_⟩, fun W g h hg hne b o e => ?_⟩
  · have hz : (Go.sizeOf 5).run Tryz.prog W = .ok 1 W := by simp [Go.sizeOf, typeInfo, hi0, hzs]
    have h0 : ¬ ((k : Int) < 0) := by omega
    simp [Instr.slice, run_underlying Tryz.underlying40, Instr.sliceBounds, run_sliceBound, hk]
  · have hlt : k < l.length := by
      rcases Nat.lt_or_ge k l.length with h | h
      · exact h
      · exact absurd (List.drop_eq_nil_of_le h) hne
    obtain ⟨b, o, rfl, hb, hcl⟩ := h.cell (by intro e; subst e; simp at hlt)
    refine ⟨b, o + k, by rw [if_neg (by omega), Option.map_some, Addr.add_lit], hb, fun j x hj => ?_⟩
    rw [Nat.add_assoc]
    exact hcl _ _ (by rw [← List.getElem?_drop]; exact hj)
  · have hlt : k < l.length := by
      rcases Nat.lt_or_ge k l.length with h | h
      · exact h
      · exact absurd (List.drop_eq_nil_of_le h) hne
    have hl : l ≠ [] := by intro e; subst e; simp at hlt
    obtain ⟨b', o', rfl, _, _⟩ := h.cell hl
    rw [if_neg (by omega), Option.map_some, Addr.add_lit] at e
    injection e with e
    injection e with e1 _
    exact e1 ▸ hg hl b' o' rfl

set_option maxRecDepth 100000 in
set_option maxHeartbeats 4000000 in
theorem scan_num (w : World) (g : Nat) (s : Sc) (most : Nat) (h : SnS w g s) (hm : most ≤ 9000000000000000000) :
    Calls Tryz.prog 53 #[.pointer (some ⟨g, 0, none⟩), .int .u64 (most : Int)] w (ScanS g (.int .i64 ((numS most s).1 : Int)) (numS most s).2 w) := by
  obtain ⟨a, cap, l, ok, h1, h2, h3, rfl⟩ := h
  have C := Lib.hid (refTake_any a cap l most w h2 (by omega))
  obtain ⟨⟨c0, c1⟩, f0, f1⟩ := cellsR2 h1
  have H1 := Lib.hid h1
  have H2 := Lib.hid h2
  have H3 := Lib.hid h3
  clear h1 h2 h3
  cases ok with
  | false =>
    have HE := Lib.hid (show numS most (if false = true then some l else none) = (0, none) from rfl)
    generalize numAt most 0 0 l = r at *
    rw [HE.out]
    clear HE
    go_enter Tryz.func53, Tryz.ntmps53
    go_wp2_with fail
    refine C.out.mono ?_
    rintro e w' ⟨rfl, rfl⟩
    go_wp2_with fail
    go_ret
    obtain ⟨q1, q2⟩ := scan_bad H1.out H2.out H3.out rfl
    exact ⟨rfl, q1, q2⟩
  | true =>
    show Calls Tryz.prog _ _ w (ScanS g (.int .i64 ((numS most (some l)).1 : Int)) (numS most (some l)).2 w)
    rcases numAt_errs most l 0 0 with hN | hN | ⟨v, k, hN, hk0, hkl⟩
    · have hq : numS most (some l) = (0, none) := by simp [numS, hN]
      rw [hN] at C
      rw [hq]
      clear hq hN
      have C : Hid (Calls Tryz.prog 110 #[.slice a l.length cap, .int .u64 (most : Int)] w fun e w' => e = .returned (.tuple #[.int .u64 0, .int .i64 (0)]) ∧ w = w') := C
      go_enter Tryz.func53, Tryz.ntmps53
      go_wp2_with fail
      refine C.out.mono ?_
      rintro e w' ⟨rfl, rfl⟩
      go_wp2_with fail
      go_ret
      obtain ⟨q1, q2⟩ := scan_bad H1.out H2.out H3.out rfl
      exact ⟨rfl, q1, q2⟩
    · have hq : numS most (some l) = (0, none) := by simp [numS, hN]
      rw [hN] at C
      rw [hq]
      clear hq hN
      have C : Hid (Calls Tryz.prog 110 #[.slice a l.length cap, .int .u64 (most : Int)] w fun e w' => e = .returned (.tuple #[.int .u64 0, .int .i64 (-1)]) ∧ w = w') := C
      go_enter Tryz.func53, Tryz.ntmps53
      go_wp2_with fail
      refine C.out.mono ?_
      rintro e w' ⟨rfl, rfl⟩
      go_wp2_with fail
      go_ret
      obtain ⟨q1, q2⟩ := scan_bad H1.out H2.out H3.out rfl
      exact ⟨rfl, q1, q2⟩
    · have hq : numS most (some l) = (v, some (l.drop k)) := by simp [numS, hN]
      have hv : v ≤ most := by
        obtain ⟨_, _, _, _, _, h, _⟩ := numAt_alone most l 0 0 v k H2.out.byte (Nat.zero_le _) hN
        exact h
      rw [hN] at C
      rw [hq]
      clear hq hN
      obtain ⟨a', c', k1, k2, k3⟩ := from_block (a := a) H2.out.cap k (by omega)
      have K2 := Lib.hid (k2 w H2.out)
      have K3 := Lib.hid (k3 w g H2.out H3.out)
      clear k2 k3
      have ev : IntKind.i64.wrap (v : Int) = (v : Int) := by rw [IntKind.wrap_i64]; omega
      have C : Hid (Calls Tryz.prog 110 #[.slice a l.length cap, .int .u64 (most : Int)] w fun e w' => e = .returned (.tuple #[.int .u64 (v : Int), .int .i64 (k : Int)]) ∧ w = w') := C
      have hk : ¬ k = 0 := by omega
      have hk2 : decide ((k : Int) ≤ 0) = false := by simp; omega
      generalize l.drop k = d at *
      go_enter Tryz.func53, Tryz.ntmps53
      go_wp2_with fail
      refine C.out.mono ?_
      rintro e w' ⟨rfl, rfl⟩
      go_wp2_with fail
      go_ret
      obtain ⟨q1, q2⟩ := scan_on H1.out K2.out K3.out rfl
      exact ⟨rfl, q1, q2⟩

set_option maxRecDepth 100000 in
set_option maxHeartbeats 4000000 in
theorem scan_text (w : World) (g : Nat) (s : Sc) (most : Nat) (h : SnS w g s) (hm : most ≤ 9000000000000000000) :
    Calls Tryz.prog 54 #[.pointer (some ⟨g, 0, none⟩), .int .u64 (most : Int)] w (ScanS g (.string (strB (textS most s).1)) (textS most s).2 w) := by
  have C := Lib.hid (scan_num w g s most h hm)
  have HT := Lib.hid (textS_eq most s)
  have hn := numS_le most s h.bytes
  generalize textS most s = t at *
  rcases hq : numS most s with ⟨n, s1⟩
  rw [hq] at C HT hn
  dsimp only at hn
  clear hq h
  go_enter Tryz.func54, Tryz.ntmps54
  go_wp2_with fail
  refine C.out.mono ?_
  rintro e w1 ⟨rfl, q1, b1⟩
  obtain ⟨a, cap, l, ok, h1, h2, h3, e1⟩ := q1
  obtain ⟨⟨c0, c1⟩, f0, f1⟩ := cellsR2 h1
  have H1 := Lib.hid h1
  have H2 := Lib.hid h2
  have H3 := Lib.hid h3
  have B1 := Lib.hid b1
  have hll := h2.len
  clear h1 h2 h3 b1 C
  cases ok with
  | false =>
    have HE := Lib.hid (show t = ([], none) by rw [HT.out, e1]; rfl)
    clear e1
    go_wp2_with fail
    go_ret
    obtain ⟨q1, q2⟩ := scan_bad H1.out H2.out H3.out rfl
    exact ⟨by rw [HE.out]; rfl, by rw [HE.out]; exact q1, B1.out.trans q2⟩
  | true =>
    by_cases hf : l.length < n
    · have HE := Lib.hid (show t = ([], none) by rw [HT.out, e1]; simp only [if_true]; rw [if_pos hf])
      clear e1
      go_wp2_with fail
      go_ret
      obtain ⟨q1, q2⟩ := scan_bad H1.out H2.out H3.out rfl
      exact ⟨by rw [HE.out]; rfl, by rw [HE.out]; exact q1, B1.out.trans q2⟩
    · have HE := Lib.hid (show t = (l.take n, some (l.drop n)) by rw [HT.out, e1]; simp only [if_true]; rw [if_neg hf])
      have hnl : n ≤ l.length := by omega
      clear e1
      obtain ⟨a2, p2, t1, t2⟩ := slice_to (a := a) H2.out.cap n (n : Int) rfl hnl
      have ht := run_text (t2 w1 H2.out)
      obtain ⟨a', c', k1, k2, k3⟩ := from_block (a := a) H2.out.cap n hnl
      have K2 := Lib.hid (k2 w1 H2.out)
      have K3 := Lib.hid (k3 w1 g H2.out H3.out)
      clear t2 k2 k3
      generalize l.drop n = d at *
      generalize l.take n = y at *
      go_wp2_with fail
      go_ret
      obtain ⟨q1, q2⟩ := scan_on H1.out K2.out K3.out rfl
      exact ⟨by rw [HE.out]; rfl, by rw [HE.out]; exact q1, B1.out.trans q2⟩
end

/- OrRTake: What the document's Take of a Scan answers. -/
section
open Go.RowKit Go.ChangeShapes Go.WideShapes Go.ChangeAt

/-- While a line is read: all that the call has made ahead of it stays. -/
structure LnI (w W : World) (g : Nat) (cs : Array Value) (s : Sc) (w' : World) : Prop where
  rd : SnS w' g s
  but : But g w w'
  old : ∀ k, w.heap.size ≤ k → k < W.heap.size → w'.heap[k]? = W.heap[k]?
  line : Row w' W.heap.size 72 cs

theorem LnI.call {w W w1 w2 : World} {g : Nat} {cs : Array Value} {s t : Sc} (h : LnI w W g cs s w1) (hg : g < w.heap.size) (hW : w.heap.size ≤ W.heap.size) (r : SnS w2 g t) (b : But g w1 w2) : LnI w W g cs t w2 :=
  ⟨r, h.but.trans b, fun k h1 h2 => (b.block k (by have := h.line.lt; omega) (by omega)).trans (h.old k h1 h2), h.line.but b (by omega)⟩
theorem LnI.set {w W w1 : World} {g : Nat} {cs : Array Value} {s : Sc} (h : LnI w W g cs s w1) (hg : g < w.heap.size) (hW : w.heap.size ≤ W.heap.size) (o : Nat) (v : Value) : LnI w W g (cs.setIfInBounds o v) s (w1.setCell ⟨W.heap.size, o, none⟩ v) :=
  ⟨h.rd.other (k := W.heap.size) (by omega) ((But.refl _ _).set o v), h.but.new hW ((But.refl _ _).set o v), fun k h1 h2 => (((But.refl W.heap.size w1).set o v).block k (by have := h.line.lt; omega) (by omega)).trans (h.old k h1 h2), h.line.set o v⟩
theorem LnI.own {w W w1 : World} {g base : Nat} {cs : Array Value} {s : Sc} {v : Value} {ls : List Ln} (h : LnI w W g cs s w1) (k : OwnL W base v ls) (hb : w.heap.size ≤ base) : OwnL w1 base v ls :=
  k.grown fun i h1 h2 => h.old i (by omega) h2
end

/- SnPlain: Plain facts on commands and states as bytes: what can be, what is written, what is read. -/
section
set_option maxRecDepth 100000

theorem sameCm_self (x : Cm) : sameCm x x = true := (sameCm_iff x x).2 rfl
/-- What is read, behind the kind. -/
def submitS (k : Nat) (s : Sc) : Cm × Sc :=
  let i := textS 32 s
  let n := numS 8 i.2
  let l := linesS n.1 n.2
  let g := groupS l.2
  let t := numS 1000000000000 g.2
  (⟨(k : Int), strB i.1, l.1, strB g.1.1, strB g.1.2.1, strB g.1.2.2, (t.1 : Int), 0, false⟩, t.2)
def idS (k : Nat) (s : Sc) : Cm × Sc := (⟨(k : Int), strB (textS 32 s).1, [], ⟨#[]⟩, ⟨#[]⟩, ⟨#[]⟩, 0, 0, false⟩, (textS 32 s).2)
def amendS (k : Nat) (s : Sc) : Cm × Sc :=
  let i := textS 32 s
  let g := groupS i.2
  (⟨(k : Int), strB i.1, [], strB g.1.1, strB g.1.2.1, strB g.1.2.2, 0, 0, false⟩, g.2)
def tickS (m k : Nat) (s : Sc) : Cm × Sc := (⟨(k : Int), ⟨#[]⟩, [], ⟨#[]⟩, ⟨#[]⟩, ⟨#[]⟩, 0, ((numS m s).1 : Int), false⟩, (numS m s).2)
def replyS (k : Nat) (s : Sc) : Cm × Sc :=
  let n := numS 1000000000000 s
  let y := numS 1 n.2
  (⟨(k : Int), ⟨#[]⟩, [], ⟨#[]⟩, ⟨#[]⟩, ⟨#[]⟩, 0, (n.1 : Int), decide (y.1 = 1)⟩, y.2)
def kindS (m k : Nat) (s : Sc) : Cm × Sc :=
  if k = 1 then submitS k s else if k = 2 ∨ k = 8 then idS k s else if k = 3 then amendS k s else if k = 4 then tickS m k s else if k = 5 then replyS k s
  else (⟨(k : Int), ⟨#[]⟩, [], ⟨#[]⟩, ⟨#[]⟩, ⟨#[]⟩, 0, 0, false⟩, s)
def toldS (m : Nat) (s : Sc) : Cm × Sc := kindS m (numS 8 s).1 (numS 8 s).2
/-- The command of bytes; none, if there is none. -/
def toldO (m : Nat) (l : List Nat) : Option Cm := if (toldS m (some l)).2 == some [] && rightC (toldS m (some l)).1 then some (toldS m (some l)).1 else none
def toldV (l : List Nat) : Cm := (toldO 1000000000000 l).getD noCm
def toldE (l : List Nat) : Int := if (toldO 1000000000000 l).isSome then 0 else 161

theorem groupL_put {a b c : ByteArray} (h : groupB a b c = true) (r : List Nat) : groupS (some (textL a ++ (textL b ++ (textL c ++ r)))) = ((strL a, strL b, strL c), some r) := by
  obtain ⟨g1, g2, g3⟩ := groupB_of h
  exact groupS_put (right_32 g1) (right_32 g2) (right_32 g3) r
theorem commandL_eq (c : Cm) : commandL c = numL c.kind.toNat ++ restL c := rfl
theorem kindS_put (m : Nat) (hm : 96 ≤ m) {c : Cm} (h : rightC c = true) (r : List Nat) : kindS m c.kind.toNat (some (restL c ++ r)) = (c, some r) := by
  obtain ⟨h1, h2⟩ := rightC_of h
  have hk := rightC_kind h
  obtain ⟨kind, id, ls, car, zone, serv, total, number, yes⟩ := c
  simp only at hk h1 h2
  have hkk : kind = 1 ∨ kind = 2 ∨ kind = 3 ∨ kind = 4 ∨ kind = 5 ∨ kind = 6 ∨ kind = 7 ∨ kind = 8 := by omega
  rcases hkk with rfl | rfl | rfl | rfl | rfl | rfl | rfl | rfl
  · have h1 : (number = 0 ∧ yes = false) := by simpa [bareC] using h1
    obtain ⟨rfl, rfl⟩ := h1
    have h2 : rightT id = true ∧ rightLB ls = true ∧ groupB car zone serv = true ∧ 0 ≤ total ∧ total ≤ 1000000000000 := by simpa [fitsC, tallyB] using h2
    obtain ⟨i1, i2, i3, i4⟩ := h2
    obtain ⟨l1, l2, _⟩ := (rightLB_iff _).1 i2
    show submitS 1 (some ((textL id ++ (numL ls.length ++ (linesL ls ++ (textL car ++ (textL zone ++ (textL serv ++ numL total.toNat)))))) ++ r)) = _
    unfold submitS
    simp only [List.append_assoc]
    rw [textS_put (right_32 i1)]
    simp only
    rw [numS_put (by omega)]
    simp only
    rw [linesS_put _ l2]
    simp only
    rw [groupL_put i3]
    simp only
    rw [numS_put (by omega)]
    simp only [strB_strL]
    rw [Int.toNat_of_nonneg i4.1]
    rfl
  · have h1 : ls = [] ∧ car = ⟨#[]⟩ ∧ zone = ⟨#[]⟩ ∧ serv = ⟨#[]⟩ ∧ total = 0 ∧ number = 0 ∧ yes = false := by simpa [bareC] using h1
    obtain ⟨rfl, rfl, rfl, rfl, rfl, rfl, rfl⟩ := h1
    have h2 : rightT id = true := by simpa [fitsC] using h2
    show idS 2 (some (textL id ++ r)) = _
    unfold idS
    rw [textS_put (right_32 h2), strB_strL]
    rfl
  · have h1 : ls = [] ∧ total = 0 ∧ number = 0 ∧ yes = false := by simpa [bareC] using h1
    obtain ⟨rfl, rfl, rfl, rfl⟩ := h1
    have h2 : rightT id = true ∧ groupB car zone serv = true := by simpa [fitsC] using h2
    show amendS 3 (some ((textL id ++ (textL car ++ (textL zone ++ textL serv))) ++ r)) = _
    unfold amendS
    simp only [List.append_assoc]
    rw [textS_put (right_32 h2.1)]
    simp only
    rw [groupL_put h2.2]
    simp only [strB_strL]
    rfl
  · have h1 : id = ⟨#[]⟩ ∧ ls = [] ∧ car = ⟨#[]⟩ ∧ zone = ⟨#[]⟩ ∧ serv = ⟨#[]⟩ ∧ total = 0 ∧ yes = false := by simpa [bareC] using h1
    obtain ⟨rfl, rfl, rfl, rfl, rfl, rfl, rfl⟩ := h1
    have h2 : 1 ≤ number ∧ number ≤ 96 := by simpa [fitsC] using h2
    show tickS m 4 (some (numL number.toNat ++ r)) = _
    unfold tickS
    rw [numS_put (by omega)]
    simp only
    rw [Int.toNat_of_nonneg (by omega)]
    rfl
  · have h1 : id = ⟨#[]⟩ ∧ ls = [] ∧ car = ⟨#[]⟩ ∧ zone = ⟨#[]⟩ ∧ serv = ⟨#[]⟩ ∧ total = 0 := by simpa [bareC] using h1
    obtain ⟨rfl, rfl, rfl, rfl, rfl, rfl⟩ := h1
    have h2 : 1 ≤ number ∧ number ≤ 1000000000000 := by simpa [fitsC, aboveB] using h2
    show replyS 5 (some ((numL number.toNat ++ numL (givenN yes)) ++ r)) = _
    unfold replyS
    rw [List.append_assoc, numS_put (by omega)]
    simp only
    rw [numS_put (givenN_le _)]
    simp only [givenN_one]
    rw [Int.toNat_of_nonneg (by omega)]
    rfl
  · have h1 : id = ⟨#[]⟩ ∧ ls = [] ∧ car = ⟨#[]⟩ ∧ zone = ⟨#[]⟩ ∧ serv = ⟨#[]⟩ ∧ total = 0 ∧ number = 0 ∧ yes = false := by simpa [bareC] using h1
    obtain ⟨rfl, rfl, rfl, rfl, rfl, rfl, rfl, rfl⟩ := h1
    rfl
  · have h1 : id = ⟨#[]⟩ ∧ ls = [] ∧ car = ⟨#[]⟩ ∧ zone = ⟨#[]⟩ ∧ serv = ⟨#[]⟩ ∧ total = 0 ∧ number = 0 ∧ yes = false := by simpa [bareC] using h1
    obtain ⟨rfl, rfl, rfl, rfl, rfl, rfl, rfl, rfl⟩ := h1
    rfl
  · have h1 : ls = [] ∧ car = ⟨#[]⟩ ∧ zone = ⟨#[]⟩ ∧ serv = ⟨#[]⟩ ∧ total = 0 ∧ number = 0 ∧ yes = false := by simpa [bareC] using h1
    obtain ⟨rfl, rfl, rfl, rfl, rfl, rfl, rfl⟩ := h1
    have h2 : rightT id = true := by simpa [fitsC] using h2
    show idS 8 (some (textL id ++ r)) = _
    unfold idS
    rw [textS_put (right_32 h2), strB_strL]
    rfl
/-- What is written is read. -/
theorem toldS_put (m : Nat) (hm : 96 ≤ m) {c : Cm} (h : rightC c = true) (r : List Nat) : toldS m (some (commandL c ++ r)) = (c, some r) := by
  unfold toldS
  have hk := rightC_kind h
  rw [commandL_eq, List.append_assoc, numS_put (by omega)]
  exact kindS_put m hm h r
theorem toldO_put (m : Nat) (hm : 96 ≤ m) {c : Cm} (h : rightC c = true) : toldO m (commandL c) = some c := by
  have := toldS_put m hm h []
  rw [List.append_nil] at this
  unfold toldO
  rw [this]
  simp [h]
theorem kindS_back (m : Nat) {k : Nat} (hk : k ≤ 8) {s : Sc} (h : BytesS s) {r : List Nat} (e : (kindS m k s).2 = some r) : (kindS m k s).1.kind = (k : Int) ∧ s = some (restL (kindS m k s).1 ++ r) := by
  have hkk : k = 0 ∨ k = 1 ∨ k = 2 ∨ k = 3 ∨ k = 4 ∨ k = 5 ∨ k = 6 ∨ k = 7 ∨ k = 8 := by omega
  rcases hkk with rfl | rfl | rfl | rfl | rfl | rfl | rfl | rfl | rfl
  · exact ⟨rfl, e⟩
  · refine ⟨rfl, ?_⟩
    change (submitS 1 s).2 = some r at e
    show s = some (restL (submitS 1 s).1 ++ r)
    unfold submitS at e ⊢
    simp only at e ⊢
    have b1 := (textS_bytes h 32).1
    have b2 := numS_bytes b1 8
    generalize hi : textS 32 s = i at *
    generalize hn : numS 8 i.2 = n at *
    have b3 := linesS_bytes n.1 b2
    have n3 := linesS_len n.1 n.2
    generalize hl : linesS n.1 n.2 = l at *
    have b4 := groupS_bytes b3
    generalize hg : groupS l.2 = g at *
    have e5 := numS_back b4 (m := 1000000000000) (r := r) e
    generalize ht : numS 1000000000000 g.2 = t at *
    have e4 := groupS_back b3 (by rw [hg]; exact e5)
    rw [hg] at e4
    have e3 := linesS_back n.1 b2 (by rw [hl]; exact e4)
    rw [hl] at e3
    have e2 := numS_back b1 (m := 8) (by rw [hn]; exact e3)
    rw [hn] at e2
    have e1 := textS_back h (m := 32) (by rw [hi]; exact e2)
    rw [hi] at e1
    show s = some ((textL (strB i.1) ++ (numL l.1.length ++ (linesL l.1 ++ (textL (strB g.1.1) ++ (textL (strB g.1.2.1) ++ (textL (strB g.1.2.2) ++ numL (t.1 : Int).toNat)))))) ++ r)
    simp only [Int.toNat_natCast, List.append_assoc, n3]
    exact e1
  · exact ⟨rfl, textS_back h (m := 32) e⟩
  · refine ⟨rfl, ?_⟩
    change (amendS 3 s).2 = some r at e
    show s = some (restL (amendS 3 s).1 ++ r)
    unfold amendS at e ⊢
    simp only at e ⊢
    have b1 := (textS_bytes h 32).1
    generalize hi : textS 32 s = i at *
    have e2 := groupS_back b1 e
    have e1 := textS_back h (m := 32) (by rw [hi]; exact e2)
    rw [hi] at e1
    show s = some ((textL (strB i.1) ++ (textL (strB (groupS i.2).1.1) ++ (textL (strB (groupS i.2).1.2.1) ++ textL (strB (groupS i.2).1.2.2)))) ++ r)
    simp only [List.append_assoc]
    exact e1
  · refine ⟨rfl, ?_⟩
    have e1 := numS_back h (m := m) (r := r) e
    show s = some (numL ((numS m s).1 : Int).toNat ++ r)
    rw [Int.toNat_natCast]
    exact e1
  · refine ⟨rfl, ?_⟩
    change (replyS 5 s).2 = some r at e
    show s = some (restL (replyS 5 s).1 ++ r)
    unfold replyS at e ⊢
    simp only at e ⊢
    have b1 := numS_bytes h 1000000000000
    generalize hn : numS 1000000000000 s = n at *
    have e2 := numS_back b1 (m := 1) (r := r) e
    have g1 := numS_le 1 n.2 b1
    generalize hy : numS 1 n.2 = y at *
    have e1 := numS_back h (m := 1000000000000) (by rw [hn]; exact e2)
    rw [hn] at e1
    have hgg : givenN (decide (y.1 = 1)) = y.1 := by
      unfold givenN
      by_cases hg1 : y.1 = 1
      · simp [hg1]
      · simp [hg1]; omega
    show s = some ((numL (n.1 : Int).toNat ++ numL (givenN (decide (y.1 = 1)))) ++ r)
    rw [Int.toNat_natCast, hgg, List.append_assoc]
    exact e1
  · exact ⟨rfl, e⟩
  · exact ⟨rfl, e⟩
  · exact ⟨rfl, textS_back h (m := 32) e⟩
theorem toldS_back (m : Nat) {s : Sc} (h : BytesS s) {r : List Nat} (e : (toldS m s).2 = some r) : s = some (commandL (toldS m s).1 ++ r) := by
  unfold toldS at e ⊢
  have h1 := numS_bytes h 8
  have h2 := numS_le 8 s h
  obtain ⟨e1, e2⟩ := kindS_back m h2 h1 e
  rw [commandL_eq, e1, Int.toNat_natCast, List.append_assoc]
  exact numS_back h e2
theorem toldO_some {m : Nat} {l : List Nat} {c : Cm} (h : toldO m l = some c) : toldS m (some l) = (c, some []) ∧ rightC c = true := by
  unfold toldO at h
  split at h
  · rename_i h1
    rw [Bool.and_eq_true, sc_beq] at h1
    cases h
    exact ⟨by rw [← h1.1], h1.2⟩
  · cases h
theorem toldO_back {m : Nat} {l : List Nat} (hb : Bytes l) {c : Cm} (h : toldO m l = some c) : l = commandL c ∧ rightC c = true := by
  obtain ⟨h1, h2⟩ := toldO_some h
  have := toldS_back m (s := some l) (fun b e => by cases e; exact hb) (r := []) (by rw [h1])
  rw [h1, List.append_nil] at this
  injection this with this
  exact ⟨this, h2⟩
/-- Whatever the greatest number of ticks that is read. -/
theorem toldO_limit {m m' : Nat} (hm : 96 ≤ m) (hm' : 96 ≤ m') {l : List Nat} (hb : Bytes l) : toldO m l = toldO m' l := by
  cases h : toldO m l with
  | some c =>
    obtain ⟨h1, h2⟩ := toldO_back hb h
    rw [h1, toldO_put m' hm' h2]
  | none =>
    cases h' : toldO m' l with
    | none => rfl
    | some c =>
      obtain ⟨h1, h2⟩ := toldO_back hb h'
      rw [h1, toldO_put m hm h2] at h
      cases h
end

/- SnLay: A command as a value: how it lies, whole loads, stores and new variables told at once; a command that came in. -/
section
set_option maxRecDepth 100000
open Go.RowKit Go.ChangeShapes Go.WideShapes Go.ChangeAt

section
variable (ev : Operand → Value) (d : Option Tmp) (ty : TypeId) (pos : String) (af : Array Edge) (gd : Option (Nat × Bool)) (w : World)
end
theorem loadCm {W : World} {g : Nat} {r : CmR} (h : Row W g 26 (cmC r)) : (loadVar 26 ⟨g, 0, none⟩).run Tryz.prog W = .ok (.agg (cmC r)) W :=
  run_loadVar_row (P := Tryz.prog) W g 26 26 _ (0, 0) _ h Tryz.underlying26 rfl (sizeCm r)
theorem ld_cm {W : World} {g : Nat} {r : CmR} (h : Row W g 26 (cmC r)) : LdX 26 (.pointer (some ⟨g, 0, none⟩)) W = .ok (.value (cmV r)) W := by
  simp only [LdX, Instr.loadAt, Instr.sureAddr, Sem.run_bind, Sem.run_pure, Result.andThen_ok, loadCm h]
  rfl
end

/- SnRef: The document's answers of layer 16 on commands: the same, bare, right. -/
section
set_option maxRecDepth 100000
open Go.RowKit Go.ChangeShapes Go.WideShapes Go.ChangeAt
attribute [local go_sem ↓] ldCm stCm alCm bxCm bdCm
attribute [local go_sem] al_cm bx_cm st_cmnew bd_cm bd_cmKind

/-- Two commands in their variables. -/
structure TwCm (w : World) (r s : CmR) (W : World) : Prop where
  one : Row W w.heap.size 26 (cmC r)
  two : Row W (w.heap.size + 1) 26 (cmC s)
  st : CmP W r
  su : CmP W s
  low : Below w.heap.size w W
theorem TwCm.below {w W W' : World} {r s : CmR} (h : TwCm w r s W) (b : Below W.heap.size W W') : TwCm w r s W' := ⟨h.one.below b, h.two.below b, h.st.below b, h.su.below b, h.low.trans (b.mono h.low.size)⟩
theorem TwCm.begin (w : World) (r s : CmR) (h : CmP w r) (hs : CmP w s) : TwCm w r s ((w.alloc (.cells (cmC r) 26)).alloc (.cells (cmC s) 26)) := by
  have b1 : Below w.heap.size w (w.alloc (.cells (cmC r) 26)) := (Below.refl _ _).alloc (Nat.le_refl _) _
  have b2 : Below w.heap.size w ((w.alloc (.cells (cmC r) 26)).alloc (.cells (cmC s) 26)) := b1.alloc b1.size _
  refine ⟨(Row.new w _ _).more _, ?_, h.below b2, hs.below b2, b2⟩
  have := Row.new (w.alloc (.cells (cmC r) 26)) (cmC s) 26
  rwa [show (w.alloc (.cells (cmC r) 26)).heap.size = w.heap.size + 1 by show (w.heap.push _).size = _; rw [Array.size_push]] at this

/-- What its kind has, alone, as a value. -/
def bareR (r : CmR) : CmR := ⟨bareC r.m, if r.m.kind = 1 then r.a else none, if r.m.kind = 1 then r.c else 0⟩
theorem empty_le : (⟨#[]⟩ : ByteArray).size ≤ maxLen := by decide
theorem bareR_p {w : World} {r : CmR} (h : CmP w r) : CmP w (bareR r) := by
  unfold bareR bareC
  split
  · exact ⟨h.lns, h.len, h.id, h.car, h.zone, h.serv⟩
  · repeat' split
    all_goals exact ⟨LnsP.nil _ _ _, by simp, by first | exact h.id | exact empty_le, by first | exact h.car | exact empty_le, by first | exact h.zone | exact empty_le, by first | exact h.serv | exact empty_le⟩
theorem setCell_els (w : World) {g k : Nat} (o : Nat) (v : Value) (h : k ≠ g) : (w.setCell ⟨g, o, none⟩ v).heap[k]? = w.heap[k]? := by
  simp only [World.setCell, Array.getElem?_modify]
  rw [if_neg (fun e => h e.symm)]
/-- The command that came in, the result's variable, what is being made. -/
structure BaI (w : World) (r o : CmR) (W : World) : Prop where
  one : Row W w.heap.size 26 (cmC r)
  res : Row W (w.heap.size + 1) 26 (cmC noCmR)
  out : Row W (w.heap.size + 2) 26 (cmC o)
  low : Below w.heap.size w W
theorem BaI.put {w W : World} {r o o' : CmR} (h : BaI w r o W) (i : Nat) (v : Value) (e : (cmC o).setIfInBounds i v = cmC o') : BaI w r o' (W.setCell ⟨w.heap.size + 2, i, none⟩ v) :=
  ⟨(setCell_els W i v (by omega)).trans h.one, (setCell_els W i v (by omega)).trans h.res, e ▸ h.out.set i v, h.low.setCell (p := ⟨w.heap.size + 2, i, none⟩) (by simp) v⟩
set_option maxHeartbeats 8000000 in
theorem refBare_any (r : CmR) (w : World) (h : CmP w r) : Calls Tryz.prog 39 #[cmV r] w (fun e w' => e = .returned (cmV (bareR r)) ∧ Below w.heap.size w w') := by
  go_enter Tryz.func39, Tryz.ntmps39
  go_step
  go_step
  go_cut [1, 2] (fun p1 p2 wx => p1 = .pointer (some ⟨w.heap.size, 0, none⟩) ∧ p2 = .pointer (some ⟨w.heap.size + 1, 0, none⟩) ∧ Hid (Row wx w.heap.size 26 (cmC r) ∧ Row wx (w.heap.size + 1) 26 (cmC noCmR) ∧ Below w.heap.size w wx ∧ wx.heap.size = w.heap.size + 2))
  case first =>
    go_wp2_with fail
    go_meet
    have T := TwCm.begin w r noCmR h (CmP.none w)
    exact ⟨rfl, rfl, Lib.hid ⟨T.one, T.two, T.low, by simp⟩⟩
  case rest =>
    obtain ⟨rfl, rfl, H⟩ := hcut
    have c0 := H.out.1.m.1.1
    go_step
    go_step
    go_cut [3] (fun p3 wx => p3 = .pointer (some ⟨w.heap.size + 2, 0, none⟩) ∧ Hid (BaI w r (kindR r.m.kind) wx))
    case first =>
      go_wp2_with fail
      go_meet
      have R := Row.new wc (cmC (kindR r.m.kind)) 26
      rw [H.out.2.2.2] at R ⊢
      exact ⟨rfl, Lib.hid ⟨H.out.1.more _, H.out.2.1.more _, R, H.out.2.2.1.alloc H.out.2.2.1.size _⟩⟩
    case rest =>
      obtain ⟨rfl, I⟩ := hcut
      clear H c0
      obtain ⟨⟨c0, c1, c2, c3, c4⟩, c5, c6, c7, c8⟩ := I.out.one.m
      have f1 := I.out.out.free 1
      have f2 := I.out.out.free 2
      have f3 := I.out.out.free 3
      have f4 := I.out.out.free 4
      have f5 := I.out.out.free 5
      have f6 := I.out.out.free 6
      have f7 := I.out.out.free 7
      have f8 := I.out.out.free 8
      obtain ⟨⟨_, d1, d2, d3, d4⟩, d5, d6, d7, d8⟩ := I.out.out.m
      go_step
      go_step
      go_cut [3] (fun p3 wx => p3 = .pointer (some ⟨w.heap.size + 2, 0, none⟩) ∧ Hid (BaI w r (bareR r) wx))
      case first =>
        have hkk : r.m.kind = 1 ∨ r.m.kind = 2 ∨ r.m.kind = 8 ∨ r.m.kind = 3 ∨ r.m.kind = 4 ∨ r.m.kind = 5 ∨ (r.m.kind ≠ 1 ∧ r.m.kind ≠ 2 ∧ r.m.kind ≠ 8 ∧ r.m.kind ≠ 3 ∧ r.m.kind ≠ 4 ∧ r.m.kind ≠ 5) := by omega
        rcases hkk with hk | hk | hk | hk | hk | hk | hk
        · have HX := Lib.hid (show bareR r = ⟨⟨r.m.kind, r.m.id, r.m.ls, r.m.car, r.m.zone, r.m.serv, r.m.total, 0, false⟩, r.a, r.c⟩ by simp [bareR, bareC, hk])
          rw [hk] at c0
          clear hk
          go_wp2_with fail
          go_meet
          exact ⟨rfl, by rw [HX.out]; exact Lib.hid (BaI.put (o := ⟨⟨r.m.kind, r.m.id, r.m.ls, r.m.car, r.m.zone, r.m.serv, 0, 0, false⟩, r.a, r.c⟩) (BaI.put (o := ⟨⟨r.m.kind, r.m.id, r.m.ls, r.m.car, r.m.zone, ⟨#[]⟩, 0, 0, false⟩, r.a, r.c⟩) (BaI.put (o := ⟨⟨r.m.kind, r.m.id, r.m.ls, r.m.car, ⟨#[]⟩, ⟨#[]⟩, 0, 0, false⟩, r.a, r.c⟩) (BaI.put (o := ⟨⟨r.m.kind, r.m.id, r.m.ls, ⟨#[]⟩, ⟨#[]⟩, ⟨#[]⟩, 0, 0, false⟩, r.a, r.c⟩) (BaI.put (o := ⟨⟨r.m.kind, r.m.id, [], ⟨#[]⟩, ⟨#[]⟩, ⟨#[]⟩, 0, 0, false⟩, none, 0⟩) (BaI.put (I.out) 1 _ rfl) 2 _ rfl) 3 _ rfl) 4 _ rfl) 5 _ rfl) 6 _ rfl)⟩
        · have HX := Lib.hid (show bareR r = ⟨⟨r.m.kind, r.m.id, [], ⟨#[]⟩, ⟨#[]⟩, ⟨#[]⟩, 0, 0, false⟩, none, 0⟩ by simp [bareR, bareC, hk])
          rw [hk] at c0
          clear hk
          go_wp2_with fail
          go_meet
          exact ⟨rfl, by rw [HX.out]; exact Lib.hid (I.out.put 1 _ rfl)⟩
        · have HX := Lib.hid (show bareR r = ⟨⟨r.m.kind, r.m.id, [], ⟨#[]⟩, ⟨#[]⟩, ⟨#[]⟩, 0, 0, false⟩, none, 0⟩ by simp [bareR, bareC, hk])
          rw [hk] at c0
          clear hk
          go_wp2_with fail
          go_meet
          exact ⟨rfl, by rw [HX.out]; exact Lib.hid (I.out.put 1 _ rfl)⟩
        · have HX := Lib.hid (show bareR r = ⟨⟨r.m.kind, r.m.id, [], r.m.car, r.m.zone, r.m.serv, 0, 0, false⟩, none, 0⟩ by simp [bareR, bareC, hk])
          rw [hk] at c0
          clear hk
          go_wp2_with fail
          go_meet
          exact ⟨rfl, by rw [HX.out]; exact Lib.hid (BaI.put (o := ⟨⟨r.m.kind, r.m.id, [], r.m.car, r.m.zone, ⟨#[]⟩, 0, 0, false⟩, none, 0⟩) (BaI.put (o := ⟨⟨r.m.kind, r.m.id, [], r.m.car, ⟨#[]⟩, ⟨#[]⟩, 0, 0, false⟩, none, 0⟩) (BaI.put (o := ⟨⟨r.m.kind, r.m.id, [], ⟨#[]⟩, ⟨#[]⟩, ⟨#[]⟩, 0, 0, false⟩, none, 0⟩) (BaI.put (I.out) 1 _ rfl) 3 _ rfl) 4 _ rfl) 5 _ rfl)⟩
        · have HX := Lib.hid (show bareR r = ⟨⟨r.m.kind, ⟨#[]⟩, [], ⟨#[]⟩, ⟨#[]⟩, ⟨#[]⟩, 0, r.m.number, false⟩, none, 0⟩ by simp [bareR, bareC, hk])
          rw [hk] at c0
          clear hk
          go_wp2_with fail
          go_meet
          exact ⟨rfl, by rw [HX.out]; exact Lib.hid (I.out.put 7 _ rfl)⟩
        · have HX := Lib.hid (show bareR r = ⟨⟨r.m.kind, ⟨#[]⟩, [], ⟨#[]⟩, ⟨#[]⟩, ⟨#[]⟩, 0, r.m.number, r.m.yes⟩, none, 0⟩ by simp [bareR, bareC, hk])
          rw [hk] at c0
          clear hk
          go_wp2_with fail
          go_meet
          exact ⟨rfl, by rw [HX.out]; exact Lib.hid (BaI.put (o := ⟨⟨r.m.kind, ⟨#[]⟩, [], ⟨#[]⟩, ⟨#[]⟩, ⟨#[]⟩, 0, r.m.number, false⟩, none, 0⟩) (I.out.put 7 _ rfl) 8 _ rfl)⟩
        · obtain ⟨q1, q2, q3, q4, q5, q6⟩ := hk
          have HX := Lib.hid (show kindR r.m.kind = bareR r by simp [kindR, bareR, bareC, q1, q2, q3, q4, q5, q6])
          have e1 : (r.m.kind == 1) = false := by simpa using q1
          have e2 : (r.m.kind == 2) = false := by simpa using q2
          have e3 : (r.m.kind == 8) = false := by simpa using q3
          have e4 : (r.m.kind == 3) = false := by simpa using q4
          have e5 : (r.m.kind == 4) = false := by simpa using q5
          have e6 : (r.m.kind == 5) = false := by simpa using q6
          clear q1 q2 q3 q4 q5 q6
          go_wp2_with fail
          go_meet
          exact ⟨rfl, by rw [← HX.out]; exact I⟩
      case rest =>
        obtain ⟨rfl, I⟩ := hcut
        have l1 := ld_cm I.out.out
        have s1 := st_cm I.out.res (bareR r)
        go_wp2_with fail
        (try simp only [Exit.inBlock, Exit.then])
        apply bodyPost_ret
        case hd => rfl
        case hr => exact results_cell_alone rfl _ _ (w.heap.size + 1) _ rfl (loadCm (setRow_heap _ _ _ _ _ _ I.out.res))
        case hR => exact ⟨rfl, Below.row I.out.low (by omega) _⟩

attribute [local go_sem ↓] ldGr bxGr eqGr
attribute [local go_sem] bx_gr ne_gr eq_grX

set_option maxHeartbeats 4000000 in
theorem refCmSame_any (r s : CmR) (w : World) (h : CmP w r) (hs : CmP w s) : Calls Tryz.prog 16 #[cmV r, cmV s] w (Tell (sameCm r.m s.m) w) := by
  have I := Lib.hid (TwCm.begin w r s h hs)
  have HE := Lib.hid (show sameCm r.m s.m = ((r.m.kind == s.m.kind) && ((r.m.id.toList == s.m.id.toList) && (sameL r.m.ls s.m.ls && (sameG r.m.car r.m.zone r.m.serv s.m.car s.m.zone s.m.serv && ((r.m.total == s.m.total) && ((r.m.number == s.m.number) && (r.m.yes == s.m.yes))))))) from rfl)
  generalize sameCm r.m s.m = res at *
  have hl := h.len
  have hls := hs.len
  obtain ⟨⟨c0, c1, c2, c3, c4⟩, c5, c6, c7, c8⟩ := I.out.one.m
  obtain ⟨⟨d0, d1, d2, d3, d4⟩, d5, d6, d7, d8⟩ := I.out.two.m
  clear h hs
  go_enter Tryz.func16, Tryz.ntmps16
  cases k1 : (r.m.kind == s.m.kind) with
  | false =>
    have HX := Lib.hid (show res = false by rw [HE.out]; simp only [k1, Bool.false_and])
    go_wp2_with fail
    go_ret
    exact ⟨by rw [HX.out]; try rfl, I.out.low⟩
  | true =>
    cases k2 : (r.m.id.toList == s.m.id.toList) with
    | false =>
      have HX := Lib.hid (show res = false by rw [HE.out]; simp only [k1, k2, Bool.true_and, Bool.false_and])
      go_wp2_with fail
      go_ret
      exact ⟨by rw [HX.out]; try rfl, I.out.low⟩
    | true =>
      go_wp2_with fail
      generalize (w.alloc (.cells (cmC r) 26)).alloc (.cells (cmC s) 26) = W0 at *
      have C := Lib.hid (refSame_any r.a s.a r.c s.c r.m.ls s.m.ls W0 I.out.st.lns I.out.su.lns hl hls)
      refine C.out.mono ?_
      rintro e W4 ⟨rfl, b1⟩
      replace I := Lib.hid (I.out.below b1)
      clear C b1 c0 c1 c2 c3 c4 c5 c6 c7 c8 d0 d1 d2 d3 d4 d5 d6 d7 d8
      obtain ⟨⟨_, _, _, c3, c4⟩, c5, c6, c7, c8⟩ := I.out.one.m
      obtain ⟨⟨_, _, _, d3, d4⟩, d5, d6, d7, d8⟩ := I.out.two.m
      have g1 := ld_grAt c3 c4 c5
      have g2 := ld_grAt d3 d4 d5
      clear c3 c4 c5 d3 d4 d5
      cases k3 : sameL r.m.ls s.m.ls with
      | false =>
        have HX := Lib.hid (show res = false by rw [HE.out]; simp only [k1, k2, k3, Bool.true_and, Bool.false_and])
        go_wp2_with fail
        go_ret
        exact ⟨by rw [HX.out]; try rfl, I.out.low⟩
      | true =>
        cases k4 : sameG r.m.car r.m.zone r.m.serv s.m.car s.m.zone s.m.serv with
        | false =>
          have HX := Lib.hid (show res = false by rw [HE.out]; simp only [k1, k2, k3, k4, Bool.true_and, Bool.false_and])
          go_wp2_with fail
          go_ret
          exact ⟨by rw [HX.out]; try rfl, I.out.low⟩
        | true =>
          cases k5 : (r.m.total == s.m.total) with
          | false =>
            have HX := Lib.hid (show res = false by rw [HE.out]; simp only [k1, k2, k3, k4, k5, Bool.true_and, Bool.false_and])
            go_wp2_with fail
            go_ret
            exact ⟨by rw [HX.out]; try rfl, I.out.low⟩
          | true =>
            cases k6 : (r.m.number == s.m.number) with
            | false =>
              have HX := Lib.hid (show res = false by rw [HE.out]; simp only [k1, k2, k3, k4, k5, k6, Bool.true_and, Bool.false_and])
              go_wp2_with fail
              go_ret
              exact ⟨by rw [HX.out]; try rfl, I.out.low⟩
            | true =>
              cases k7 : (r.m.yes == s.m.yes) with
              | false =>
                have HX := Lib.hid (show res = false by rw [HE.out]; simp only [k1, k2, k3, k4, k5, k6, k7, Bool.true_and])
                go_wp2_with fail
                go_ret
                exact ⟨by rw [HX.out]; try rfl, I.out.low⟩
              | true =>
                have HX := Lib.hid (show res = true by rw [HE.out]; simp only [k1, k2, k3, k4, k5, k6, k7, Bool.true_and])
                go_wp2_with fail
                go_ret
                exact ⟨by rw [HX.out]; try rfl, I.out.low⟩

/-- A command in its variable. -/
structure OnCm (w : World) (r : CmR) (W : World) : Prop where
  one : Row W w.heap.size 26 (cmC r)
  cm : CmP W r
  low : Below w.heap.size w W
theorem OnCm.below {w W W' : World} {r : CmR} (h : OnCm w r W) (b : Below W.heap.size W W') : OnCm w r W' := ⟨h.one.below b, h.cm.below b, h.low.trans (b.mono h.low.size)⟩
theorem OnCm.begin (w : World) (r : CmR) (h : CmP w r) : OnCm w r (w.alloc (.cells (cmC r) 26)) := by
  have b : Below w.heap.size w (w.alloc (.cells (cmC r) 26)) := (Below.refl _ _).alloc (Nat.le_refl _) _
  exact ⟨Row.new _ _ _, h.below b, b⟩

set_option maxHeartbeats 8000000 in
theorem refCmRight_any (r : CmR) (w : World) (h : CmP w r) : Calls Tryz.prog 14 #[cmV r] w (Tell (rightC r.m) w) := by
  have I := Lib.hid (OnCm.begin w r h)
  have HE := Lib.hid (show rightC r.m = (sameCm r.m (bareC r.m) && fitsC r.m) from rfl)
  generalize rightC r.m = res at *
  have hid := h.id
  have C3 := Lib.hid (fun W => show Calls Tryz.prog 40 #[.string r.m.id] W (Tell (rightT r.m.id) W) from refRight_any r.m.id W h.id)
  have C4 := Lib.hid (fun W hW => refRight15_any r.a r.c r.m.ls W hW h.len)
  have C5 := Lib.hid (fun W => show Calls Tryz.prog 42 #[grV r.m.car r.m.zone r.m.serv] W (Tell (groupB r.m.car r.m.zone r.m.serv) W) from refGroup_any r.m.car r.m.zone r.m.serv W h.car h.zone h.serv)
  have C6 := Lib.hid (fun W => refTally_any r.m.total W)
  clear h
  go_enter Tryz.func14, Tryz.ntmps14
  go_wp2_with fail
  generalize w.alloc (.cells (cmC r) 26) = W0 at *
  have f1 : ∀ p : Far W0, LdX 26 (.pointer (some ⟨w.heap.size, 0, none⟩)) (farOf W0 p) = .ok (.value (cmV r)) (farOf W0 p) := fun p => ld_cm (I.out.below (far_below W0 p)).one
  have C1 := Lib.hid (fun p : Far W0 => refBare_any r _ (I.out.below (far_below W0 p)).cm)
  have C2 := Lib.hid (fun p : Far W0 => show Calls Tryz.prog 16 #[cmV r, cmV (bareR r)] (farOf W0 p) (Tell (sameCm r.m (bareC r.m)) (farOf W0 p)) from refCmSame_any r (bareR r) _ (I.out.below (far_below W0 p)).cm (bareR_p (I.out.below (far_below W0 p)).cm))
  generalize sameCm r.m (bareC r.m) = k0 at *
  refine wp_region_far (by kernel_rfl) (by kernel_rfl) ?_
  repeat (first | go_big_quiet_step (first | (go_at_call 39; exact calls_far (C1.out _)) | (go_at_call 16; exact calls_far (C2.out _))) | quiet_step (first | (go_at_call 39; exact calls_far (C1.out _)) | (go_at_call 16; exact calls_far (C2.out _))))
  refine wpQuiet_nil ?_
  intro _ hw'
  obtain ⟨p, hw''⟩ := hw'
  subst hw''
  replace I := Lib.hid (I.out.below (far_below W0 p))
  clear f1 C1 C2
  generalize farOf W0 p = W1 at *
  cases k0 with
  | false =>
    have HX := Lib.hid (show res = false by rw [HE.out, Bool.false_and])
    go_wp2_with fail
    go_ret
    exact ⟨by rw [HX.out]; try rfl, I.out.low⟩
  | true =>
    have HF := Lib.hid (show res = fitsC r.m by rw [HE.out, Bool.true_and])
    obtain ⟨⟨c0, c1, _, _, _⟩, _, _, _, _⟩ := I.out.one.m
    go_wp2_with fail
    refine (C3.out _).mono ?_
    rintro e W2 ⟨rfl, b2⟩
    replace I := Lib.hid (I.out.below b2)
    clear c0 c1 C3 b2
    obtain ⟨⟨c0, c1, c2, c3, c4⟩, c5, c6, c7, c8⟩ := I.out.one.m
    have g1 := ld_grAt c3 c4 c5
    clear c1 c3 c4 c5 c8
    have hkk : r.m.kind = 1 ∨ r.m.kind = 2 ∨ r.m.kind = 8 ∨ r.m.kind = 3 ∨ r.m.kind = 4 ∨ r.m.kind = 5 ∨ r.m.kind = 6 ∨ r.m.kind = 7 ∨ (r.m.kind ≠ 1 ∧ r.m.kind ≠ 2 ∧ r.m.kind ≠ 8 ∧ r.m.kind ≠ 3 ∧ r.m.kind ≠ 4 ∧ r.m.kind ≠ 5 ∧ r.m.kind ≠ 6 ∧ r.m.kind ≠ 7) := by omega
    rcases hkk with hk | hk | hk | hk | hk | hk | hk | hk | hk
    · have HG := Lib.hid (show res = (rightT r.m.id && (rightLB r.m.ls && (groupB r.m.car r.m.zone r.m.serv && tallyB r.m.total))) by rw [HF.out]; simp [fitsC, hk])
      rw [hk] at c0
      clear hk
      cases k1 : rightT r.m.id with
      | false =>
        have HX := Lib.hid (show res = false by rw [HG.out, k1, Bool.false_and])
        go_wp2_with fail
        go_ret
        exact ⟨by rw [HX.out]; try rfl, I.out.low⟩
      | true =>
        go_wp2_with fail
        refine (C4.out _ I.out.cm.lns).mono ?_
        rintro e W3 ⟨rfl, b3⟩
        replace I := Lib.hid (I.out.below b3)
        clear c0 c2 g1 c6 c7 b3 C4
        obtain ⟨⟨c0, c1, c2, c3, c4⟩, c5, c6, c7, c8⟩ := I.out.one.m
        have g1 := ld_grAt c3 c4 c5
        clear c0 c1 c2 c3 c4 c5 c7 c8
        cases k2 : rightLB r.m.ls with
        | false =>
          have HX := Lib.hid (show res = false by rw [HG.out, k1, k2]; rfl)
          go_wp2_with fail
          go_ret
          exact ⟨by rw [HX.out]; try rfl, I.out.low⟩
        | true =>
          go_wp2_with fail
          refine (C5.out _).mono ?_
          rintro e W4 ⟨rfl, b4⟩
          replace I := Lib.hid (I.out.below b4)
          clear g1 c6 b4 C5
          have c6 := I.out.one.m.2.2.1
          cases k3 : groupB r.m.car r.m.zone r.m.serv with
          | false =>
            have HX := Lib.hid (show res = false by rw [HG.out, k1, k2, k3]; rfl)
            go_wp2_with fail
            go_ret
            exact ⟨by rw [HX.out]; try rfl, I.out.low⟩
          | true =>
            have HX := Lib.hid (show res = tallyB r.m.total by rw [HG.out, k1, k2, k3]; rfl)
            go_wp2_with fail
            refine (C6.out _).mono ?_
            rintro e W5 ⟨rfl, rfl⟩
            go_wp2_with fail
            go_ret
            exact ⟨by rw [HX.out]; try rfl, I.out.low⟩
    · have HX := Lib.hid (show res = rightT r.m.id by rw [HF.out]; simp [fitsC, hk])
      rw [hk] at c0
      clear hk
      go_wp2_with fail
      go_ret
      exact ⟨by rw [HX.out]; try rfl, I.out.low⟩
    · have HX := Lib.hid (show res = rightT r.m.id by rw [HF.out]; simp [fitsC, hk])
      rw [hk] at c0
      clear hk
      go_wp2_with fail
      go_ret
      exact ⟨by rw [HX.out]; try rfl, I.out.low⟩
    · have HG := Lib.hid (show res = (rightT r.m.id && groupB r.m.car r.m.zone r.m.serv) by rw [HF.out]; simp [fitsC, hk])
      rw [hk] at c0
      clear hk
      cases k1 : rightT r.m.id with
      | false =>
        have HX := Lib.hid (show res = false by rw [HG.out, k1, Bool.false_and])
        go_wp2_with fail
        go_ret
        exact ⟨by rw [HX.out]; try rfl, I.out.low⟩
      | true =>
        have HX := Lib.hid (show res = groupB r.m.car r.m.zone r.m.serv by rw [HG.out, k1, Bool.true_and])
        go_wp2_with fail
        refine (C5.out _).mono ?_
        rintro e W4 ⟨rfl, b4⟩
        replace I := Lib.hid (I.out.below b4)
        clear g1 c0 c2 c6 c7 b4 C5
        go_wp2_with fail
        go_ret
        exact ⟨by rw [HX.out]; try rfl, I.out.low⟩
    · have HG := Lib.hid (show res = (decide (1 ≤ r.m.number) && decide (r.m.number ≤ 96)) by rw [HF.out]; simp [fitsC, hk])
      rw [hk] at c0
      clear hk
      cases k1 : decide (1 ≤ r.m.number) with
      | false =>
        have HX := Lib.hid (show res = false by rw [HG.out, k1, Bool.false_and])
        go_wp2_with fail
        go_ret
        exact ⟨by rw [HX.out]; try rfl, I.out.low⟩
      | true =>
        have HX := Lib.hid (show res = decide (r.m.number ≤ 96) by rw [HG.out, k1, Bool.true_and])
        go_wp2_with fail
        go_ret
        exact ⟨by rw [HX.out]; try rfl, I.out.low⟩
    · have HG := Lib.hid (show res = (decide (1 ≤ r.m.number) && decide (r.m.number ≤ 1000000000000)) by rw [HF.out]; simp [fitsC, hk, aboveB])
      rw [hk] at c0
      clear hk
      cases k1 : decide (1 ≤ r.m.number) with
      | false =>
        have HX := Lib.hid (show res = false by rw [HG.out, k1, Bool.false_and])
        go_wp2_with fail
        go_ret
        exact ⟨by rw [HX.out]; try rfl, I.out.low⟩
      | true =>
        have HX := Lib.hid (show res = decide (r.m.number ≤ 1000000000000) by rw [HG.out, k1, Bool.true_and])
        go_wp2_with fail
        go_ret
        exact ⟨by rw [HX.out]; try rfl, I.out.low⟩
    · have HX := Lib.hid (show res = true by rw [HF.out]; simp [fitsC, hk])
      rw [hk] at c0
      clear hk
      go_wp2_with fail
      go_ret
      exact ⟨by rw [HX.out]; try rfl, I.out.low⟩
    · have HX := Lib.hid (show res = true by rw [HF.out]; simp [fitsC, hk])
      rw [hk] at c0
      clear hk
      go_wp2_with fail
      go_ret
      exact ⟨by rw [HX.out]; try rfl, I.out.low⟩
    · obtain ⟨q1, q2, q3, q4, q5, q6, q7, q8⟩ := hk
      have HX := Lib.hid (show res = false by rw [HF.out]; simp [fitsC, q1, q2, q3, q4, q5, q6, q7, q8])
      have e1 : (r.m.kind == 1) = false := by simpa using q1
      have e2 : (r.m.kind == 2) = false := by simpa using q2
      have e3 : (r.m.kind == 8) = false := by simpa using q3
      have e4 : (r.m.kind == 3) = false := by simpa using q4
      have e5 : (r.m.kind == 4) = false := by simpa using q5
      have e6 : (r.m.kind == 5) = false := by simpa using q6
      have e7 : (r.m.kind == 6) = false := by simpa using q7
      have e8 : (r.m.kind == 7) = false := by simpa using q8
      clear q1 q2 q3 q4 q5 q6 q7 q8
      go_wp2_with fail
      go_ret
      exact ⟨by rw [HX.out]; try rfl, I.out.low⟩
end

end Go.Proofs.YtfmpibmhhfmajaaGreatDoor
