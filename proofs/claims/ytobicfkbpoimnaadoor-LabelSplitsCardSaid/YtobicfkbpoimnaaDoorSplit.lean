/- What Split of package label answers, at every text that is not too long. -/
import Derived.Test.YtobicfkbpoimnaaDoorNext
import Derived.Test.YtobicfkbpoimnaaDoorPlain3
import Derived.WalkSpells
namespace Go.Proofs.YtobicfkbpoimnaaDoor
open Go.RowKit

def blankS : ByteArray := ⟨#[32]⟩

set_option maxHeartbeats 1000000 in
theorem cut36_any (s : ByteArray) (w : World) (hs : s.size ≤ maxLen) :
    Calls Tryd.prog 36 #[.string s, .string ⟨#[32]⟩] w fun e w' => e = .returned (.tuple #[.string ⟨(cf s.data.toList).toArray⟩, .string ⟨(cr s.data.toList).toArray⟩, .bool (cm s.data.toList)]) ∧ Below w.heap.size w w' := by
  unfold maxLen at hs
  rcases cut_cases s.data.toList with ⟨h1, h2, h3, h4⟩ | ⟨i, h1, h2, h3, h4, h5⟩
  · have HI := Lib.hid h2
    have HF := Lib.hid (⟨h1, h3, h4⟩ : _ ∧ _ ∧ _)
    clear h1 h2 h3 h4
    go_enter Tryd.func36, Tryd.ntmps36
    go_wp2_with (go_at_call 48; refine (Tryd.stringslite_Index_one _ _ _).mono ?_; rintro e w' ⟨rfl, hw⟩; subst hw; rw [HI.out])
    go_ret3
    refine ⟨?_, Below.refl _ _⟩
    rw [HF.out.1, HF.out.2.1, HF.out.2.2]
    rfl
  · rw [← Lib.size_eq] at h3
    have HI := Lib.hid h2
    have HF := Lib.hid (⟨h1, h4, h5⟩ : _ ∧ _ ∧ _)
    clear h1 h2 h4 h5
    have c1 : (0 : Int) ≤ (i : Int) := by omega
    have c2 : (i : Int) ≤ (s.size : Int) := by omega
    have c3 : (0 : Int) ≤ (i : Int) + 1 := by omega
    have c4 : (i : Int) + 1 ≤ (s.size : Int) := by omega
    go_enter Tryd.func36, Tryd.ntmps36
    go_wp2_with (go_at_call 48; refine (Tryd.stringslite_Index_one _ _ _).mono ?_; rintro e w' ⟨rfl, hw⟩; subst hw; rw [HI.out])
    go_region
    go_wp2
    go_ret3
    refine ⟨?_, (Below.refl _ _).drew⟩
    rw [HF.out.1, HF.out.2.1, HF.out.2.2]
    rw [← Lib.extract_upto, ← Lib.extract_from]
    rfl

theorem cut27_any (s : ByteArray) (w : World) (hs : s.size ≤ maxLen) :
    Calls Tryd.prog 27 #[.string s, .string ⟨#[32]⟩] w fun e w' => e = .returned (.tuple #[.string ⟨(cf s.data.toList).toArray⟩, .string ⟨(cr s.data.toList).toArray⟩, .bool (cm s.data.toList)]) ∧ Below w.heap.size w w' := by
  go_enter Tryd.func27, Tryd.ntmps27
  go_wp2_with (go_at_call 36; refine (cut36_any _ _ hs).mono ?_; rintro e w' ⟨rfl, hb⟩)
  go_ret3
  exact ⟨rfl, hb⟩

/-- Rows that a call owns stand, where nothing that was there has turned. -/
theorem own_below {w w' : World} {base : Nat} {e : TypeId} {size : Nat} {v : Value} {n : Nat} {xs : List Value} (h : w.ownsRow base e size v n xs) (hb : Below w.heap.size w w') : w'.ownsRow base e size v n xs := by
  refine ⟨h.1, ?_⟩
  rcases h.2 with hn | ⟨g, cap, cur, rfl, hbb, hgg, rest⟩
  · exact .inl hn
  · refine .inr ⟨g, cap, cur, rfl, hbb, ?_, rest⟩
    have hlt : g < w.heap.size := by
      by_cases hl : g < w.heap.size
      · exact hl
      · rw [Array.getElem?_eq_none (by omega)] at hgg
        cases hgg
    rw [hb.block g hlt]
    exact hgg

def strV (x : List UInt8) : Value := .string ⟨x.toArray⟩
theorem Tryd.info9 : (Tryd.prog.info? 9).map (fun i => (i.zero, i.size, i.bytes)) = some (some (.string ByteArray.empty), 1, 16) := by kernel_rfl

def boolN : Value → Nat
  | .bool true => 1
  | _ => 0

/-- What Split leaves. -/
def SplitPost (l : List UInt8) (w : World) (e : Ending) (w' : World) : Prop :=
  ∃ v, e = .returned (.tuple #[v, .int .i64 (splitE l)]) ∧ w'.ownsRow w.heap.size 9 1 v (splitW l).length ((splitW l).map strV) ∧ Below w.heap.size w w'

/-- What holds at each round's head. -/
def SplitRel (l : List UInt8) (w : World) (v r m : Value) (wr : World) : Prop :=
  ∃ (pre : List (List UInt8)) (rest : ByteArray) (more : Bool), r = .string rest ∧ m = .bool more ∧ rest.size ≤ l.length ∧ (more = true → words l = pre ++ words rest.data.toList) ∧ (more = false → words l = pre) ∧ (∀ x ∈ pre, rightB x = true) ∧
    wr.ownsRow w.heap.size 9 1 v pre.length (pre.map strV) ∧ Below w.heap.size w wr

set_option maxHeartbeats 2000000 in
theorem split_any (s : ByteArray) (w : World) (hs : s.size ≤ 1000000000) :
    Calls Tryd.prog 10 #[.string s] w (SplitPost s.data.toList w) := by
  by_cases he : s.data.toList = []
  · have he' : s.toList.isEmpty = true := by rw [Lib.toList_data, he]; rfl
    have HE := Lib.hid he
    clear he
    go_enter Tryd.func10, Tryd.ntmps10
    go_wp2_with fail
    go_ret2
    refine ⟨.slice none 0 0, ?_, ?_, Below.refl _ _⟩
    · rw [HE.out]; rfl
    · rw [HE.out]; exact World.ownsRow_nil _ _ _ _
  · have he' : s.toList.isEmpty = false := by rw [Lib.toList_data]; simpa using he
    have HE := Lib.hid he
    clear he
    obtain ⟨i0, hi, hz0, hz1, hz2⟩ := info_parts Tryd.info9
    have HL := Lib.hid (Lib.size_eq s)
    have HM := Lib.hid (words_len s.data.toList)
    go_enter Tryd.func10, Tryd.ntmps10
    go_wp2_with fail
    go_loopw [4, 5, 6] (fun v r m wr => SplitRel s.data.toList w v r m wr) (fun _ r m _ => Lib.strSize r + boolN m)
    case atStart => exact ⟨[], s, true, rfl, rfl, by rw [HL.out]; exact Nat.le_refl _, fun _ => rfl, (fun h => by cases h), (fun x hx => by cases hx), World.ownsRow_nil _ _ _ _, Below.refl _ _⟩
    case round =>
      obtain ⟨pre, rest, more, rfl, rfl, hrs, hm1, hm2, hpre, hown, hbw⟩ := hrel
      cases more with
      | false =>
        have HG := Lib.hid (split_good HE.out (by rw [hm2 rfl]; exact hpre))
        have H1 := Lib.hid (hm2 rfl)
        have H3 := Lib.hid hown
        clear hm1 hm2 hpre hown
        go_wp2_with fail
        go_ret2
        refine ⟨u4, ?_, ?_, hbw⟩
        · rw [HG.out.2]; rfl
        · rw [HG.out.1, H1.out]; exact H3.out
      | true =>
        have hrl : rest.size ≤ maxLen := by rw [← HL.out] at hrs; unfold maxLen; omega
        have cC := fun w => cut27_any rest w hrl
        have hcl := cut_len rest.data.toList
        obtain ⟨fs, hfs⟩ : ∃ fs : ByteArray, (⟨(cf rest.data.toList).toArray⟩ : ByteArray) = fs := ⟨_, rfl⟩
        obtain ⟨rs, hrss⟩ : ∃ rs : ByteArray, (⟨(cr rest.data.toList).toArray⟩ : ByteArray) = rs := ⟨_, rfl⟩
        obtain ⟨cb, hcb⟩ : ∃ cb : Bool, cm rest.data.toList = cb := ⟨_, rfl⟩
        rw [hfs, hrss, hcb] at cC
        have hfl : fs.data.toList = cf rest.data.toList := by rw [← hfs]
        have hrsl : rs.data.toList = cr rest.data.toList := by rw [← hrss]
        rw [← hfl, ← hrsl, hcb, ← Lib.size_eq, ← Lib.size_eq, ← Lib.size_eq] at hcl
        have hfm : fs.size ≤ maxLen := Nat.le_trans hcl.1 hrl
        have H1 := Lib.hid (hm1 rfl)
        have hwc := words_cut2 rest.data.toList
        rw [hcb, ← hfl, ← hrsl] at hwc
        have HW := Lib.hid hwc
        have H2 := Lib.hid hpre
        have H3 := Lib.hid hown
        have H4 := Lib.hid hrs
        have HC := Lib.hid cC
        have H5 := Lib.hid hcl
        have hpl : pre.length + 1 ≤ 1000000001 := by
          have h := HM.out
          rw [H1.out, ← HL.out] at h
          have := List.length_pos_iff.2 (words_ne rest.data.toList)
          simp at h
          omega
        clear hm1 hm2 hpre hown hrs hfs hrss hcb hfl hrsl hwc cC hcl
        go_wp2_with fail
        refine (HC.out _).mono ?_
        rintro e w1 ⟨rfl, hb1⟩
        go_wp2_with fail
        refine (right_any _ _ hfm).mono ?_
        rintro e w2 ⟨rfl, hb2⟩
        have hb3 := (hbw.trans (hb1.mono hbw.size))
        have hb4 := hb3.trans (hb2.mono hb3.size)
        have H6 := Lib.hid (own_below (own_below H3.out hb1) hb2)
        clear hb1 hb2 hb3
        cases hr : rightB fs.data.toList with
        | false =>
          have HB := Lib.hid (split_bad HE.out (x := fs.data.toList) (by rw [H1.out, HW.out]; simp) hr)
          clear hr
          go_wp2_with fail
          go_ret2
          refine ⟨.slice none 0 0, ?_, ?_, hb4⟩
          · rw [HB.out.2]; rfl
          · rw [HB.out.1]; exact World.ownsRow_nil _ _ _ _
        | true =>
          have HR := Lib.hid hr
          clear hr
          go_wp2_with (at_builtin; go_must (refine wpList_append_own _ rfl _ _ 25 rfl w.heap.size 9 i0 (.string ByteArray.empty) 1 16 Tryd.underlying25 hi hz0 hz1 hz2 rfl (by decide) _ _ _ rfl (H6.out.alloc _) ⟨w2.heap.size, 0, none⟩ 1 1 [.string fs] rfl rfl (cell_one_new _ _ _) (fun x hx => by simp at hx; subst hx; rfl) (by unfold maxLen; omega) (by omega) (by have := hb4.size; simp; omega) ?_; intro v' w3 hown' hgrow3 hnil3))
          go_roundw
          case rel =>
            have hw4 := H5.out
            refine ⟨pre ++ [fs.data.toList], rs, cb, rfl, rfl, by have := H4.out; omega, ?_, ?_, ?_, ?_, ?_⟩
            · intro h; rw [H1.out, HW.out, if_pos h]; simp
            · intro h; rw [H1.out, HW.out, h]; simp
            · intro x hx
              simp only [List.mem_append, List.mem_singleton] at hx
              rcases hx with hx | rfl
              · exact H2.out x hx
              · exact HR.out
            · rw [List.length_append, List.map_append]
              have e : strV fs.data.toList = .string fs := by unfold strV; rw [Lib.mk_data]
              simp only [List.length_singleton, List.map_cons, List.map_nil, e]
              exact hown'
            · exact ((hb4.alloc hb4.size _).grown hgrow3 (by have := hb4.size; simp; omega) (fun k hk => (H6.out.lt k hk).1))
          case measure =>
            have hw4 := H5.out
            cases cb
            · simp [Lib.strSize, boolN]; omega
            · have := hw4.2.2 rfl
              simp [Lib.strSize, boolN]; omega

end Go.Proofs.YtobicfkbpoimnaaDoor
