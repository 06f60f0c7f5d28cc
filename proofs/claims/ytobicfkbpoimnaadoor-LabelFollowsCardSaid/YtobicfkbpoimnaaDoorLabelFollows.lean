/- LabelFollows: the law returns true for every text and every number: the label that follows a label is another one, as long or one sign longer, with the same beginning, and a label that is cut is a label. The conditions are those of its row: the listed tables of package unicode/utf8 lie as the program's text lays them. -/
import Derived.Test.YtobicfkbpoimnaaDoorAlive
import Derived.Test.YtobicfkbpoimnaaDoorCut
import Derived.Test.YtobicfkbpoimnaaDoorRows
import Derived.Test.YtobicfkbpoimnaaDoorCards
import Derived.Test.YtobicfkbpoimnaaDoorTie
import Derived.ProofKit
import Derived.Lay
import Derived.LaidOnce
import Derived.SevenTiedAt
namespace Go.Proofs.YtobicfkbpoimnaaDoor
open Go.RowKit Go.ChangeShapes Go.WideShapes Go.ChangeAt

theorem beq_no {a b : ByteArray} (h : a.data.toList ≠ b.data.toList) : (a.toList == b.toList) = false := by
  rw [Lib.toList_data, Lib.toList_data]
  simpa using fun e => h (congrArg Array.toList e)

theorem next_cases {l : List UInt8} (hr : rightB l = true) :
    (nextS l = [] ∧ nextE l = 11 ∧ signsI l = 16) ∨
    (nextS l = nextRaw l ∧ nextE l = 0 ∧ rightB (nextRaw l) = true ∧ (signsI (nextRaw l) - signsI l = 0 ∨ signsI (nextRaw l) - signsI l = 1) ∧ cutN (nextRaw l) 1 = cutN l 1) := by
  obtain ⟨hcs, h1, h2, h3, h4, h5, h6⟩ := lab_parts hr
  have hn := next_lab h1 h2 h3 h4
  have hl := oneMore_len (d := tailL l)
  by_cases h16 : hcs.length + (oneMoreL (tailL l)).length ≤ 16
  · rw [if_pos h16] at hn
    have hrn : rightB (nextRaw l) = true := by simp [rightB, hn]
    refine Or.inr ⟨by simp [nextS, nextO, hr, hrn], by simp [nextE, nextO, hr, hrn], hrn, ?_, ?_⟩
    · simp only [signsI, hn, h5, List.length_append, singles, List.length_map]
      omega
    · simp only [cutN, cutL, hn, h5]
      cases hcs with
      | nil => exact absurd rfl h1
      | cons x r => rfl
  · rw [if_neg h16] at hn
    have hrn : rightB (nextRaw l) = false := by simp [rightB, hn]
    refine Or.inl ⟨by simp [nextS, nextO, hr, hrn], by simp [nextE, nextO, hr, hrn], ?_⟩
    simp only [signsI, h5, List.length_append, singles, List.length_map]
    omega

theorem cut_signs {l : List UInt8} (hr : rightB l = true) {n : Int} (hn : 1 ≤ n) : rightB (cutN l n) = true ∧ signsI (cutN l n) = if signsI l < n then signsI l else n := by
  obtain ⟨cs, hcs⟩ := right_some hr
  have h := cut_lab hcs (n := n.toNat) (by omega)
  refine ⟨by unfold cutN; simp [rightB, h], ?_⟩
  unfold cutN
  simp only [signsI, h, hcs, List.length_take]
  split <;> omega

theorem cut_small {l : List UInt8} (hr : rightB l = true) (n : Int) : (cutN l n).length ≤ 32 := by
  by_cases hn : 1 ≤ n
  · exact (right_len (cut_signs hr hn).1).2
  · rw [cutN_low (by omega)]; simp

set_option maxHeartbeats 4000000 in
theorem follows_walk (s : ByteArray) (n : Int) (w : World) (hs : s.size ≤ maxLen) (hn : -9223372036854775808 ≤ n ∧ n ≤ 9223372036854775807) : Calls Tryd.prog 7 #[.string s, .int .i64 n] w fun e w' => e = .returned (.bool true) ∧ Below w.heap.size w w' := by
  cases hr : rightB s.data.toList with
  | false =>
    have HR := Lib.hid hr
    clear hr
    go_enter Tryd.func7, Tryd.ntmps7
    go_wp2_with fail
    refine (alive_any _).mono ?_
    rintro e w1 ⟨rfl, b1⟩
    go_wp2_with fail
    refine (right_any _ _ hs).mono ?_
    rintro e w2 ⟨rfl, b2⟩
    rw [HR.out]
    go_wp2_with fail
    go_ret
    exact ⟨rfl, b1.trans (b2.mono b1.size)⟩
  | true =>
    have HR := Lib.hid hr
    have HN := Lib.hid (next_cases hr)
    have HK := Lib.hid (signs_len hr)
    have C12 := Lib.hid (fun w => signs_any s w hs)
    have C9 := Lib.hid (fun w => next_any s w hs)
    have HCS := Lib.hid (fun (m : Int) (hm : 1 ≤ m) => cut_signs hr hm)
    have hcz := cut_small hr
    clear hr
    obtain ⟨cb, hcb⟩ : ∃ cb : ByteArray, (⟨(cutN s.data.toList n).toArray⟩ : ByteArray) = cb := ⟨_, rfl⟩
    have hcd : cb.data.toList = cutN s.data.toList n := by rw [← hcb]
    have hcs : cb.size ≤ maxLen := by rw [Lib.size_eq, hcd]; have := hcz n; unfold maxLen; omega
    have C17 : Hid (∀ w, Calls Tryd.prog 17 #[.string s, .int .i64 n] w fun e w' => e = .returned (.string cb) ∧ Below w.heap.size w w') := Lib.hid (fun w => by have := cut_any s n w hs; rw [hcb] at this; exact this)
    have C13c := Lib.hid (fun w => right_any cb w hcs)
    have C12c := Lib.hid (fun w => signs_any cb w hcs)
    rw [hcd] at C13c C12c
    have HCD := Lib.hid hcd
    clear hcd hcb
    -- the number and the cut: what holds of them, whichever it is
    obtain ⟨K, hK⟩ : ∃ K : Int, signsI s.data.toList = K := ⟨_, rfl⟩
    rw [hK] at C12 HK
    have hks : 1 ≤ K ∧ K ≤ 16 := ⟨HK.out.1, HK.out.2.2.2⟩
    have HKK := Lib.hid hK
    have hmn : n < 1 ∨ (1 ≤ n ∧ K < n) ∨ (1 ≤ n ∧ n ≤ K) := by omega
    clear hK HK
    rcases HN.out with ⟨q1, q2, q3⟩ | ⟨q1, q2, q3, q4, q5⟩
    · -- nothing follows
      rw [q1, q2] at C9
      rw [HKK.out] at q3
      have k16 : ((K : Int) == 16) = true := by simpa using q3
      clear q1 q2 q3 HN hcz
      have he : (⟨([] : List UInt8).toArray⟩ : ByteArray).toList.isEmpty = true := by rw [Lib.toList_data]; rfl
      rcases hmn with h1 | ⟨h1, h2⟩ | ⟨h1, h2⟩
      · have d1 : decide (1 ≤ n) = false := by simpa using h1
        go_enter Tryd.func7, Tryd.ntmps7
        go_wp2_with fail
        refine (alive_any _).mono ?_
        rintro e w1 ⟨rfl, b1⟩
        go_wp2_with fail
        refine (right_any _ _ hs).mono ?_
        rintro e w2 ⟨rfl, b2⟩
        rw [HR.out]
        go_wp2_with fail
        refine (C9.out _).mono ?_
        rintro e w3 ⟨rfl, b3⟩
        go_wp2_with fail
        refine (C12.out _).mono ?_
        rintro e w4 ⟨rfl, b4⟩
        go_wp2_with fail
        go_ret
        have a2 := b1.trans (b2.mono b1.size)
        have a3 := a2.trans (b3.mono a2.size)
        have a4 := a3.trans (b4.mono a3.size)
        exact ⟨rfl, a4⟩
      · have d1 : decide (1 ≤ n) = true := by simpa using h1
        have hc := HCS.out n h1
        rw [HKK.out, if_pos h2] at hc
        rw [hc.1] at C13c
        rw [hc.2] at C12c
        have hmin : ∀ (ts : Array TypeId) (t : TypeId) (W : World), (Builtin.min_ ts t #[.int .i64 n, .int .i64 K]).run Tryd.prog W = .ok (.int .i64 K) W := fun ts t W => by
          rw [run_min_int2]; congr 2; exact if_pos h2
        clear hc
        go_enter Tryd.func7, Tryd.ntmps7
        go_wp2_with fail
        refine (alive_any _).mono ?_
        rintro e w1 ⟨rfl, b1⟩
        go_wp2_with fail
        refine (right_any _ _ hs).mono ?_
        rintro e w2 ⟨rfl, b2⟩
        rw [HR.out]
        go_wp2_with fail
        refine (C17.out _).mono ?_
        rintro e w3 ⟨rfl, b3⟩
        go_wp2_with fail
        refine (C13c.out _).mono ?_
        rintro e w4 ⟨rfl, b4⟩
        go_wp2_with fail
        refine (C17.out _).mono ?_
        rintro e w5 ⟨rfl, b5⟩
        go_wp2_with fail
        refine (C12c.out _).mono ?_
        rintro e w6 ⟨rfl, b6⟩
        go_wp2_with fail
        refine (C12.out _).mono ?_
        rintro e w7 ⟨rfl, b7⟩
        go_wp2_with fail
        refine (C9.out _).mono ?_
        rintro e w8 ⟨rfl, b8⟩
        go_wp2_with fail
        refine (C12.out _).mono ?_
        rintro e w9 ⟨rfl, b9⟩
        go_wp2_with fail
        go_ret
        have a2 := b1.trans (b2.mono b1.size)
        have a3 := a2.trans (b3.mono a2.size)
        have a4 := a3.trans (b4.mono a3.size)
        have a5 := a4.trans (b5.mono a4.size)
        have a6 := a5.trans (b6.mono a5.size)
        have a7 := a6.trans (b7.mono a6.size)
        have a8 := a7.trans (b8.mono a7.size)
        have a9 := a8.trans (b9.mono a8.size)
        exact ⟨rfl, a9⟩
      · have d1 : decide (1 ≤ n) = true := by simpa using h1
        have hc := HCS.out n h1
        rw [HKK.out, if_neg (by omega)] at hc
        rw [hc.1] at C13c
        rw [hc.2] at C12c
        have hmin : ∀ (ts : Array TypeId) (t : TypeId) (W : World), (Builtin.min_ ts t #[.int .i64 n, .int .i64 K]).run Tryd.prog W = .ok (.int .i64 n) W := fun ts t W => by
          rw [run_min_int2]; congr 2; exact if_neg (by omega)
        clear hc
        go_enter Tryd.func7, Tryd.ntmps7
        go_wp2_with fail
        refine (alive_any _).mono ?_
        rintro e w1 ⟨rfl, b1⟩
        go_wp2_with fail
        refine (right_any _ _ hs).mono ?_
        rintro e w2 ⟨rfl, b2⟩
        rw [HR.out]
        go_wp2_with fail
        refine (C17.out _).mono ?_
        rintro e w3 ⟨rfl, b3⟩
        go_wp2_with fail
        refine (C13c.out _).mono ?_
        rintro e w4 ⟨rfl, b4⟩
        go_wp2_with fail
        refine (C17.out _).mono ?_
        rintro e w5 ⟨rfl, b5⟩
        go_wp2_with fail
        refine (C12c.out _).mono ?_
        rintro e w6 ⟨rfl, b6⟩
        go_wp2_with fail
        refine (C12.out _).mono ?_
        rintro e w7 ⟨rfl, b7⟩
        go_wp2_with fail
        refine (C9.out _).mono ?_
        rintro e w8 ⟨rfl, b8⟩
        go_wp2_with fail
        refine (C12.out _).mono ?_
        rintro e w9 ⟨rfl, b9⟩
        go_wp2_with fail
        go_ret
        have a2 := b1.trans (b2.mono b1.size)
        have a3 := a2.trans (b3.mono a2.size)
        have a4 := a3.trans (b4.mono a3.size)
        have a5 := a4.trans (b5.mono a4.size)
        have a6 := a5.trans (b6.mono a5.size)
        have a7 := a6.trans (b7.mono a6.size)
        have a8 := a7.trans (b8.mono a7.size)
        have a9 := a8.trans (b9.mono a8.size)
        exact ⟨rfl, a9⟩
    · -- a label follows
      obtain ⟨tb, htb⟩ : ∃ tb : ByteArray, (⟨(nextRaw s.data.toList).toArray⟩ : ByteArray) = tb := ⟨_, rfl⟩
      have htd : tb.data.toList = nextRaw s.data.toList := by rw [← htb]
      have hts : tb.size ≤ maxLen := by
        have := (right_len q3).2
        rw [Lib.size_eq, htd]; unfold maxLen; omega
      rw [q1, q2, htb] at C9
      have e1 : (tb.toList == s.toList) = false := beq_no (by rw [htd]; exact next_ne _)
      obtain ⟨J, hJ⟩ : ∃ J : Int, signsI tb.data.toList = J := ⟨_, rfl⟩
      have C12t := Lib.hid (fun w => signs_any tb w hts)
      have C13t := Lib.hid (fun w => right_any tb w hts)
      rw [htd, q3] at C13t
      rw [← htd, hJ, HKK.out] at q4
      rw [hJ] at C12t
      have C9t := Lib.hid (fun w => next_any tb w hts)
      have HNT := Lib.hid (next_cases (l := tb.data.toList) (by rw [htd]; exact q3))
      have e2 : nextRaw tb.data.toList ≠ tb.data.toList := next_ne _
      have e3 : nextRaw tb.data.toList ≠ s.data.toList := by rw [htd]; exact next_next_ne _
      obtain ⟨c1, hc1⟩ : ∃ c1 : ByteArray, (⟨(cutN s.data.toList 1).toArray⟩ : ByteArray) = c1 := ⟨_, rfl⟩
      have C171 : Hid (∀ w, Calls Tryd.prog 17 #[.string s, .int .i64 1] w fun e w' => e = .returned (.string c1) ∧ Below w.heap.size w w') := Lib.hid (fun w => by have := cut_any s 1 w hs; rw [hc1] at this; exact this)
      have C17t : Hid (∀ w, Calls Tryd.prog 17 #[.string tb, .int .i64 1] w fun e w' => e = .returned (.string c1) ∧ Below w.heap.size w w') := Lib.hid (fun w => by have := cut_any tb 1 w hts; rw [htd, q5, hc1] at this; exact this)
      have E2 := Lib.hid e2
      have E3 := Lib.hid e3
      have hj : -16 ≤ J ∧ J ≤ 32 := by omega
      clear htb htd q1 q2 q3 q5 hc1 hJ HN hcz e2 e3
      have HQ := Lib.hid q4
      clear q4
      rcases HNT.out with ⟨r1, r2, _⟩ | ⟨r1, r2, r3, _⟩
      · rw [r1, r2] at C9t
        clear r1 r2 HNT
        rcases HQ.out with q4 | q4
        · have d4 : (J - K == 0) = true := by simpa using q4
          clear q4
          rcases hmn with h1 | ⟨h1, h2⟩ | ⟨h1, h2⟩
          · have d1 : decide (1 ≤ n) = false := by simpa using h1
            go_enter Tryd.func7, Tryd.ntmps7
            go_wp2_with fail
            refine (alive_any _).mono ?_
            rintro e w1 ⟨rfl, b1⟩
            go_wp2_with fail
            refine (right_any _ _ hs).mono ?_
            rintro e w2 ⟨rfl, b2⟩
            rw [HR.out]
            go_wp2_with fail
            refine (C9.out _).mono ?_
            rintro e w3 ⟨rfl, b3⟩
            go_wp2_with fail
            refine (C9t.out _).mono ?_
            rintro e w4 ⟨rfl, b4⟩
            go_wp2_with fail
            refine (C12t.out _).mono ?_
            rintro e w5 ⟨rfl, b5⟩
            go_wp2_with fail
            refine (C12.out _).mono ?_
            rintro e w6 ⟨rfl, b6⟩
            go_wp2_with fail
            refine (C13t.out _).mono ?_
            rintro e w7 ⟨rfl, b7⟩
            go_wp2_with fail
            refine (C17t.out _).mono ?_
            rintro e w8 ⟨rfl, b8⟩
            go_wp2_with fail
            refine (C171.out _).mono ?_
            rintro e w9 ⟨rfl, b9⟩
            go_wp2_with fail
            go_ret
            have a2 := b1.trans (b2.mono b1.size)
            have a3 := a2.trans (b3.mono a2.size)
            have a4 := a3.trans (b4.mono a3.size)
            have a5 := a4.trans (b5.mono a4.size)
            have a6 := a5.trans (b6.mono a5.size)
            have a7 := a6.trans (b7.mono a6.size)
            have a8 := a7.trans (b8.mono a7.size)
            have a9 := a8.trans (b9.mono a8.size)
            exact ⟨rfl, a9⟩
          · have d1 : decide (1 ≤ n) = true := by simpa using h1
            have hc := HCS.out n h1
            rw [HKK.out, if_pos h2] at hc
            rw [hc.1] at C13c
            rw [hc.2] at C12c
            have hmin : ∀ (ts : Array TypeId) (t : TypeId) (W : World), (Builtin.min_ ts t #[.int .i64 n, .int .i64 K]).run Tryd.prog W = .ok (.int .i64 K) W := fun ts t W => by
              rw [run_min_int2]; congr 2; exact if_pos h2
            clear hc
            go_enter Tryd.func7, Tryd.ntmps7
            go_wp2_with fail
            refine (alive_any _).mono ?_
            rintro e w1 ⟨rfl, b1⟩
            go_wp2_with fail
            refine (right_any _ _ hs).mono ?_
            rintro e w2 ⟨rfl, b2⟩
            rw [HR.out]
            go_wp2_with fail
            refine (C17.out _).mono ?_
            rintro e w3 ⟨rfl, b3⟩
            go_wp2_with fail
            refine (C13c.out _).mono ?_
            rintro e w4 ⟨rfl, b4⟩
            go_wp2_with fail
            refine (C17.out _).mono ?_
            rintro e w5 ⟨rfl, b5⟩
            go_wp2_with fail
            refine (C12c.out _).mono ?_
            rintro e w6 ⟨rfl, b6⟩
            go_wp2_with fail
            refine (C12.out _).mono ?_
            rintro e w7 ⟨rfl, b7⟩
            go_wp2_with fail
            refine (C9.out _).mono ?_
            rintro e w8 ⟨rfl, b8⟩
            go_wp2_with fail
            refine (C9t.out _).mono ?_
            rintro e w9 ⟨rfl, b9⟩
            go_wp2_with fail
            refine (C12t.out _).mono ?_
            rintro e w10 ⟨rfl, b10⟩
            go_wp2_with fail
            refine (C12.out _).mono ?_
            rintro e w11 ⟨rfl, b11⟩
            go_wp2_with fail
            refine (C13t.out _).mono ?_
            rintro e w12 ⟨rfl, b12⟩
            go_wp2_with fail
            refine (C17t.out _).mono ?_
            rintro e w13 ⟨rfl, b13⟩
            go_wp2_with fail
            refine (C171.out _).mono ?_
            rintro e w14 ⟨rfl, b14⟩
            go_wp2_with fail
            go_ret
            have a2 := b1.trans (b2.mono b1.size)
            have a3 := a2.trans (b3.mono a2.size)
            have a4 := a3.trans (b4.mono a3.size)
            have a5 := a4.trans (b5.mono a4.size)
            have a6 := a5.trans (b6.mono a5.size)
            have a7 := a6.trans (b7.mono a6.size)
            have a8 := a7.trans (b8.mono a7.size)
            have a9 := a8.trans (b9.mono a8.size)
            have a10 := a9.trans (b10.mono a9.size)
            have a11 := a10.trans (b11.mono a10.size)
            have a12 := a11.trans (b12.mono a11.size)
            have a13 := a12.trans (b13.mono a12.size)
            have a14 := a13.trans (b14.mono a13.size)
            exact ⟨rfl, a14⟩
          · have d1 : decide (1 ≤ n) = true := by simpa using h1
            have hc := HCS.out n h1
            rw [HKK.out, if_neg (by omega)] at hc
            rw [hc.1] at C13c
            rw [hc.2] at C12c
            have hmin : ∀ (ts : Array TypeId) (t : TypeId) (W : World), (Builtin.min_ ts t #[.int .i64 n, .int .i64 K]).run Tryd.prog W = .ok (.int .i64 n) W := fun ts t W => by
              rw [run_min_int2]; congr 2; exact if_neg (by omega)
            clear hc
            go_enter Tryd.func7, Tryd.ntmps7
            go_wp2_with fail
            refine (alive_any _).mono ?_
            rintro e w1 ⟨rfl, b1⟩
            go_wp2_with fail
            refine (right_any _ _ hs).mono ?_
            rintro e w2 ⟨rfl, b2⟩
            rw [HR.out]
            go_wp2_with fail
            refine (C17.out _).mono ?_
            rintro e w3 ⟨rfl, b3⟩
            go_wp2_with fail
            refine (C13c.out _).mono ?_
            rintro e w4 ⟨rfl, b4⟩
            go_wp2_with fail
            refine (C17.out _).mono ?_
            rintro e w5 ⟨rfl, b5⟩
            go_wp2_with fail
            refine (C12c.out _).mono ?_
            rintro e w6 ⟨rfl, b6⟩
            go_wp2_with fail
            refine (C12.out _).mono ?_
            rintro e w7 ⟨rfl, b7⟩
            go_wp2_with fail
            refine (C9.out _).mono ?_
            rintro e w8 ⟨rfl, b8⟩
            go_wp2_with fail
            refine (C9t.out _).mono ?_
            rintro e w9 ⟨rfl, b9⟩
            go_wp2_with fail
            refine (C12t.out _).mono ?_
            rintro e w10 ⟨rfl, b10⟩
            go_wp2_with fail
            refine (C12.out _).mono ?_
            rintro e w11 ⟨rfl, b11⟩
            go_wp2_with fail
            refine (C13t.out _).mono ?_
            rintro e w12 ⟨rfl, b12⟩
            go_wp2_with fail
            refine (C17t.out _).mono ?_
            rintro e w13 ⟨rfl, b13⟩
            go_wp2_with fail
            refine (C171.out _).mono ?_
            rintro e w14 ⟨rfl, b14⟩
            go_wp2_with fail
            go_ret
            have a2 := b1.trans (b2.mono b1.size)
            have a3 := a2.trans (b3.mono a2.size)
            have a4 := a3.trans (b4.mono a3.size)
            have a5 := a4.trans (b5.mono a4.size)
            have a6 := a5.trans (b6.mono a5.size)
            have a7 := a6.trans (b7.mono a6.size)
            have a8 := a7.trans (b8.mono a7.size)
            have a9 := a8.trans (b9.mono a8.size)
            have a10 := a9.trans (b10.mono a9.size)
            have a11 := a10.trans (b11.mono a10.size)
            have a12 := a11.trans (b12.mono a11.size)
            have a13 := a12.trans (b13.mono a12.size)
            have a14 := a13.trans (b14.mono a13.size)
            exact ⟨rfl, a14⟩
        · have d4 : (J - K == 0) = false := by rw [q4]; rfl
          have d5 : (J - K == 1) = true := by simpa using q4
          clear q4
          rcases hmn with h1 | ⟨h1, h2⟩ | ⟨h1, h2⟩
          · have d1 : decide (1 ≤ n) = false := by simpa using h1
            go_enter Tryd.func7, Tryd.ntmps7
            go_wp2_with fail
            refine (alive_any _).mono ?_
            rintro e w1 ⟨rfl, b1⟩
            go_wp2_with fail
            refine (right_any _ _ hs).mono ?_
            rintro e w2 ⟨rfl, b2⟩
            rw [HR.out]
            go_wp2_with fail
            refine (C9.out _).mono ?_
            rintro e w3 ⟨rfl, b3⟩
            go_wp2_with fail
            refine (C9t.out _).mono ?_
            rintro e w4 ⟨rfl, b4⟩
            go_wp2_with fail
            refine (C12t.out _).mono ?_
            rintro e w5 ⟨rfl, b5⟩
            go_wp2_with fail
            refine (C12.out _).mono ?_
            rintro e w6 ⟨rfl, b6⟩
            go_wp2_with fail
            refine (C12t.out _).mono ?_
            rintro e w7 ⟨rfl, b7⟩
            go_wp2_with fail
            refine (C12.out _).mono ?_
            rintro e w8 ⟨rfl, b8⟩
            go_wp2_with fail
            refine (C13t.out _).mono ?_
            rintro e w9 ⟨rfl, b9⟩
            go_wp2_with fail
            refine (C17t.out _).mono ?_
            rintro e w10 ⟨rfl, b10⟩
            go_wp2_with fail
            refine (C171.out _).mono ?_
            rintro e w11 ⟨rfl, b11⟩
            go_wp2_with fail
            go_ret
            have a2 := b1.trans (b2.mono b1.size)
            have a3 := a2.trans (b3.mono a2.size)
            have a4 := a3.trans (b4.mono a3.size)
            have a5 := a4.trans (b5.mono a4.size)
            have a6 := a5.trans (b6.mono a5.size)
            have a7 := a6.trans (b7.mono a6.size)
            have a8 := a7.trans (b8.mono a7.size)
            have a9 := a8.trans (b9.mono a8.size)
            have a10 := a9.trans (b10.mono a9.size)
            have a11 := a10.trans (b11.mono a10.size)
            exact ⟨rfl, a11⟩
          · have d1 : decide (1 ≤ n) = true := by simpa using h1
            have hc := HCS.out n h1
            rw [HKK.out, if_pos h2] at hc
            rw [hc.1] at C13c
            rw [hc.2] at C12c
            have hmin : ∀ (ts : Array TypeId) (t : TypeId) (W : World), (Builtin.min_ ts t #[.int .i64 n, .int .i64 K]).run Tryd.prog W = .ok (.int .i64 K) W := fun ts t W => by
              rw [run_min_int2]; congr 2; exact if_pos h2
            clear hc
            go_enter Tryd.func7, Tryd.ntmps7
            go_wp2_with fail
            refine (alive_any _).mono ?_
            rintro e w1 ⟨rfl, b1⟩
            go_wp2_with fail
            refine (right_any _ _ hs).mono ?_
            rintro e w2 ⟨rfl, b2⟩
            rw [HR.out]
            go_wp2_with fail
            refine (C17.out _).mono ?_
            rintro e w3 ⟨rfl, b3⟩
            go_wp2_with fail
            refine (C13c.out _).mono ?_
            rintro e w4 ⟨rfl, b4⟩
            go_wp2_with fail
            refine (C17.out _).mono ?_
            rintro e w5 ⟨rfl, b5⟩
            go_wp2_with fail
            refine (C12c.out _).mono ?_
            rintro e w6 ⟨rfl, b6⟩
            go_wp2_with fail
            refine (C12.out _).mono ?_
            rintro e w7 ⟨rfl, b7⟩
            go_wp2_with fail
            refine (C9.out _).mono ?_
            rintro e w8 ⟨rfl, b8⟩
            go_wp2_with fail
            refine (C9t.out _).mono ?_
            rintro e w9 ⟨rfl, b9⟩
            go_wp2_with fail
            refine (C12t.out _).mono ?_
            rintro e w10 ⟨rfl, b10⟩
            go_wp2_with fail
            refine (C12.out _).mono ?_
            rintro e w11 ⟨rfl, b11⟩
            go_wp2_with fail
            refine (C12t.out _).mono ?_
            rintro e w12 ⟨rfl, b12⟩
            go_wp2_with fail
            refine (C12.out _).mono ?_
            rintro e w13 ⟨rfl, b13⟩
            go_wp2_with fail
            refine (C13t.out _).mono ?_
            rintro e w14 ⟨rfl, b14⟩
            go_wp2_with fail
            refine (C17t.out _).mono ?_
            rintro e w15 ⟨rfl, b15⟩
            go_wp2_with fail
            refine (C171.out _).mono ?_
            rintro e w16 ⟨rfl, b16⟩
            go_wp2_with fail
            go_ret
            have a2 := b1.trans (b2.mono b1.size)
            have a3 := a2.trans (b3.mono a2.size)
            have a4 := a3.trans (b4.mono a3.size)
            have a5 := a4.trans (b5.mono a4.size)
            have a6 := a5.trans (b6.mono a5.size)
            have a7 := a6.trans (b7.mono a6.size)
            have a8 := a7.trans (b8.mono a7.size)
            have a9 := a8.trans (b9.mono a8.size)
            have a10 := a9.trans (b10.mono a9.size)
            have a11 := a10.trans (b11.mono a10.size)
            have a12 := a11.trans (b12.mono a11.size)
            have a13 := a12.trans (b13.mono a12.size)
            have a14 := a13.trans (b14.mono a13.size)
            have a15 := a14.trans (b15.mono a14.size)
            have a16 := a15.trans (b16.mono a15.size)
            exact ⟨rfl, a16⟩
          · have d1 : decide (1 ≤ n) = true := by simpa using h1
            have hc := HCS.out n h1
            rw [HKK.out, if_neg (by omega)] at hc
            rw [hc.1] at C13c
            rw [hc.2] at C12c
            have hmin : ∀ (ts : Array TypeId) (t : TypeId) (W : World), (Builtin.min_ ts t #[.int .i64 n, .int .i64 K]).run Tryd.prog W = .ok (.int .i64 n) W := fun ts t W => by
              rw [run_min_int2]; congr 2; exact if_neg (by omega)
            clear hc
            go_enter Tryd.func7, Tryd.ntmps7
            go_wp2_with fail
            refine (alive_any _).mono ?_
            rintro e w1 ⟨rfl, b1⟩
            go_wp2_with fail
            refine (right_any _ _ hs).mono ?_
            rintro e w2 ⟨rfl, b2⟩
            rw [HR.out]
            go_wp2_with fail
            refine (C17.out _).mono ?_
            rintro e w3 ⟨rfl, b3⟩
            go_wp2_with fail
            refine (C13c.out _).mono ?_
            rintro e w4 ⟨rfl, b4⟩
            go_wp2_with fail
            refine (C17.out _).mono ?_
            rintro e w5 ⟨rfl, b5⟩
            go_wp2_with fail
            refine (C12c.out _).mono ?_
            rintro e w6 ⟨rfl, b6⟩
            go_wp2_with fail
            refine (C12.out _).mono ?_
            rintro e w7 ⟨rfl, b7⟩
            go_wp2_with fail
            refine (C9.out _).mono ?_
            rintro e w8 ⟨rfl, b8⟩
            go_wp2_with fail
            refine (C9t.out _).mono ?_
            rintro e w9 ⟨rfl, b9⟩
            go_wp2_with fail
            refine (C12t.out _).mono ?_
            rintro e w10 ⟨rfl, b10⟩
            go_wp2_with fail
            refine (C12.out _).mono ?_
            rintro e w11 ⟨rfl, b11⟩
            go_wp2_with fail
            refine (C12t.out _).mono ?_
            rintro e w12 ⟨rfl, b12⟩
            go_wp2_with fail
            refine (C12.out _).mono ?_
            rintro e w13 ⟨rfl, b13⟩
            go_wp2_with fail
            refine (C13t.out _).mono ?_
            rintro e w14 ⟨rfl, b14⟩
            go_wp2_with fail
            refine (C17t.out _).mono ?_
            rintro e w15 ⟨rfl, b15⟩
            go_wp2_with fail
            refine (C171.out _).mono ?_
            rintro e w16 ⟨rfl, b16⟩
            go_wp2_with fail
            go_ret
            have a2 := b1.trans (b2.mono b1.size)
            have a3 := a2.trans (b3.mono a2.size)
            have a4 := a3.trans (b4.mono a3.size)
            have a5 := a4.trans (b5.mono a4.size)
            have a6 := a5.trans (b6.mono a5.size)
            have a7 := a6.trans (b7.mono a6.size)
            have a8 := a7.trans (b8.mono a7.size)
            have a9 := a8.trans (b9.mono a8.size)
            have a10 := a9.trans (b10.mono a9.size)
            have a11 := a10.trans (b11.mono a10.size)
            have a12 := a11.trans (b12.mono a11.size)
            have a13 := a12.trans (b13.mono a12.size)
            have a14 := a13.trans (b14.mono a13.size)
            have a15 := a14.trans (b15.mono a14.size)
            have a16 := a15.trans (b16.mono a15.size)
            exact ⟨rfl, a16⟩
      · obtain ⟨ub, hub⟩ : ∃ ub : ByteArray, (⟨(nextRaw tb.data.toList).toArray⟩ : ByteArray) = ub := ⟨_, rfl⟩
        have hud : ub.data.toList = nextRaw tb.data.toList := by rw [← hub]
        rw [r1, r2, hub] at C9t
        have e4 : (ub.toList == s.toList) = false := beq_no (by rw [hud]; exact E3.out)
        have e5 : (ub.toList == tb.toList) = false := beq_no (by rw [hud]; exact E2.out)
        clear r1 r2 r3 HNT hub hud
        rcases HQ.out with q4 | q4
        · have d4 : (J - K == 0) = true := by simpa using q4
          clear q4
          rcases hmn with h1 | ⟨h1, h2⟩ | ⟨h1, h2⟩
          · have d1 : decide (1 ≤ n) = false := by simpa using h1
            go_enter Tryd.func7, Tryd.ntmps7
            go_wp2_with fail
            refine (alive_any _).mono ?_
            rintro e w1 ⟨rfl, b1⟩
            go_wp2_with fail
            refine (right_any _ _ hs).mono ?_
            rintro e w2 ⟨rfl, b2⟩
            rw [HR.out]
            go_wp2_with fail
            refine (C9.out _).mono ?_
            rintro e w3 ⟨rfl, b3⟩
            go_wp2_with fail
            refine (C9t.out _).mono ?_
            rintro e w4 ⟨rfl, b4⟩
            go_wp2_with fail
            refine (C12t.out _).mono ?_
            rintro e w5 ⟨rfl, b5⟩
            go_wp2_with fail
            refine (C12.out _).mono ?_
            rintro e w6 ⟨rfl, b6⟩
            go_wp2_with fail
            refine (C13t.out _).mono ?_
            rintro e w7 ⟨rfl, b7⟩
            go_wp2_with fail
            refine (C17t.out _).mono ?_
            rintro e w8 ⟨rfl, b8⟩
            go_wp2_with fail
            refine (C171.out _).mono ?_
            rintro e w9 ⟨rfl, b9⟩
            go_wp2_with fail
            go_ret
            have a2 := b1.trans (b2.mono b1.size)
            have a3 := a2.trans (b3.mono a2.size)
            have a4 := a3.trans (b4.mono a3.size)
            have a5 := a4.trans (b5.mono a4.size)
            have a6 := a5.trans (b6.mono a5.size)
            have a7 := a6.trans (b7.mono a6.size)
            have a8 := a7.trans (b8.mono a7.size)
            have a9 := a8.trans (b9.mono a8.size)
            exact ⟨rfl, a9⟩
          · have d1 : decide (1 ≤ n) = true := by simpa using h1
            have hc := HCS.out n h1
            rw [HKK.out, if_pos h2] at hc
            rw [hc.1] at C13c
            rw [hc.2] at C12c
            have hmin : ∀ (ts : Array TypeId) (t : TypeId) (W : World), (Builtin.min_ ts t #[.int .i64 n, .int .i64 K]).run Tryd.prog W = .ok (.int .i64 K) W := fun ts t W => by
              rw [run_min_int2]; congr 2; exact if_pos h2
            clear hc
            go_enter Tryd.func7, Tryd.ntmps7
            go_wp2_with fail
            refine (alive_any _).mono ?_
            rintro e w1 ⟨rfl, b1⟩
            go_wp2_with fail
            refine (right_any _ _ hs).mono ?_
            rintro e w2 ⟨rfl, b2⟩
            rw [HR.out]
            go_wp2_with fail
            refine (C17.out _).mono ?_
            rintro e w3 ⟨rfl, b3⟩
            go_wp2_with fail
            refine (C13c.out _).mono ?_
            rintro e w4 ⟨rfl, b4⟩
            go_wp2_with fail
            refine (C17.out _).mono ?_
            rintro e w5 ⟨rfl, b5⟩
            go_wp2_with fail
            refine (C12c.out _).mono ?_
            rintro e w6 ⟨rfl, b6⟩
            go_wp2_with fail
            refine (C12.out _).mono ?_
            rintro e w7 ⟨rfl, b7⟩
            go_wp2_with fail
            refine (C9.out _).mono ?_
            rintro e w8 ⟨rfl, b8⟩
            go_wp2_with fail
            refine (C9t.out _).mono ?_
            rintro e w9 ⟨rfl, b9⟩
            go_wp2_with fail
            refine (C12t.out _).mono ?_
            rintro e w10 ⟨rfl, b10⟩
            go_wp2_with fail
            refine (C12.out _).mono ?_
            rintro e w11 ⟨rfl, b11⟩
            go_wp2_with fail
            refine (C13t.out _).mono ?_
            rintro e w12 ⟨rfl, b12⟩
            go_wp2_with fail
            refine (C17t.out _).mono ?_
            rintro e w13 ⟨rfl, b13⟩
            go_wp2_with fail
            refine (C171.out _).mono ?_
            rintro e w14 ⟨rfl, b14⟩
            go_wp2_with fail
            go_ret
            have a2 := b1.trans (b2.mono b1.size)
            have a3 := a2.trans (b3.mono a2.size)
            have a4 := a3.trans (b4.mono a3.size)
            have a5 := a4.trans (b5.mono a4.size)
            have a6 := a5.trans (b6.mono a5.size)
            have a7 := a6.trans (b7.mono a6.size)
            have a8 := a7.trans (b8.mono a7.size)
            have a9 := a8.trans (b9.mono a8.size)
            have a10 := a9.trans (b10.mono a9.size)
            have a11 := a10.trans (b11.mono a10.size)
            have a12 := a11.trans (b12.mono a11.size)
            have a13 := a12.trans (b13.mono a12.size)
            have a14 := a13.trans (b14.mono a13.size)
            exact ⟨rfl, a14⟩
          · have d1 : decide (1 ≤ n) = true := by simpa using h1
            have hc := HCS.out n h1
            rw [HKK.out, if_neg (by omega)] at hc
            rw [hc.1] at C13c
            rw [hc.2] at C12c
            have hmin : ∀ (ts : Array TypeId) (t : TypeId) (W : World), (Builtin.min_ ts t #[.int .i64 n, .int .i64 K]).run Tryd.prog W = .ok (.int .i64 n) W := fun ts t W => by
              rw [run_min_int2]; congr 2; exact if_neg (by omega)
            clear hc
            go_enter Tryd.func7, Tryd.ntmps7
            go_wp2_with fail
            refine (alive_any _).mono ?_
            rintro e w1 ⟨rfl, b1⟩
            go_wp2_with fail
            refine (right_any _ _ hs).mono ?_
            rintro e w2 ⟨rfl, b2⟩
            rw [HR.out]
            go_wp2_with fail
            refine (C17.out _).mono ?_
            rintro e w3 ⟨rfl, b3⟩
            go_wp2_with fail
            refine (C13c.out _).mono ?_
            rintro e w4 ⟨rfl, b4⟩
            go_wp2_with fail
            refine (C17.out _).mono ?_
            rintro e w5 ⟨rfl, b5⟩
            go_wp2_with fail
            refine (C12c.out _).mono ?_
            rintro e w6 ⟨rfl, b6⟩
            go_wp2_with fail
            refine (C12.out _).mono ?_
            rintro e w7 ⟨rfl, b7⟩
            go_wp2_with fail
            refine (C9.out _).mono ?_
            rintro e w8 ⟨rfl, b8⟩
            go_wp2_with fail
            refine (C9t.out _).mono ?_
            rintro e w9 ⟨rfl, b9⟩
            go_wp2_with fail
            refine (C12t.out _).mono ?_
            rintro e w10 ⟨rfl, b10⟩
            go_wp2_with fail
            refine (C12.out _).mono ?_
            rintro e w11 ⟨rfl, b11⟩
            go_wp2_with fail
            refine (C13t.out _).mono ?_
            rintro e w12 ⟨rfl, b12⟩
            go_wp2_with fail
            refine (C17t.out _).mono ?_
            rintro e w13 ⟨rfl, b13⟩
            go_wp2_with fail
            refine (C171.out _).mono ?_
            rintro e w14 ⟨rfl, b14⟩
            go_wp2_with fail
            go_ret
            have a2 := b1.trans (b2.mono b1.size)
            have a3 := a2.trans (b3.mono a2.size)
            have a4 := a3.trans (b4.mono a3.size)
            have a5 := a4.trans (b5.mono a4.size)
            have a6 := a5.trans (b6.mono a5.size)
            have a7 := a6.trans (b7.mono a6.size)
            have a8 := a7.trans (b8.mono a7.size)
            have a9 := a8.trans (b9.mono a8.size)
            have a10 := a9.trans (b10.mono a9.size)
            have a11 := a10.trans (b11.mono a10.size)
            have a12 := a11.trans (b12.mono a11.size)
            have a13 := a12.trans (b13.mono a12.size)
            have a14 := a13.trans (b14.mono a13.size)
            exact ⟨rfl, a14⟩
        · have d4 : (J - K == 0) = false := by rw [q4]; rfl
          have d5 : (J - K == 1) = true := by simpa using q4
          clear q4
          rcases hmn with h1 | ⟨h1, h2⟩ | ⟨h1, h2⟩
          · have d1 : decide (1 ≤ n) = false := by simpa using h1
            go_enter Tryd.func7, Tryd.ntmps7
            go_wp2_with fail
            refine (alive_any _).mono ?_
            rintro e w1 ⟨rfl, b1⟩
            go_wp2_with fail
            refine (right_any _ _ hs).mono ?_
            rintro e w2 ⟨rfl, b2⟩
            rw [HR.out]
            go_wp2_with fail
            refine (C9.out _).mono ?_
            rintro e w3 ⟨rfl, b3⟩
            go_wp2_with fail
            refine (C9t.out _).mono ?_
            rintro e w4 ⟨rfl, b4⟩
            go_wp2_with fail
            refine (C12t.out _).mono ?_
            rintro e w5 ⟨rfl, b5⟩
            go_wp2_with fail
            refine (C12.out _).mono ?_
            rintro e w6 ⟨rfl, b6⟩
            go_wp2_with fail
            refine (C12t.out _).mono ?_
            rintro e w7 ⟨rfl, b7⟩
            go_wp2_with fail
            refine (C12.out _).mono ?_
            rintro e w8 ⟨rfl, b8⟩
            go_wp2_with fail
            refine (C13t.out _).mono ?_
            rintro e w9 ⟨rfl, b9⟩
            go_wp2_with fail
            refine (C17t.out _).mono ?_
            rintro e w10 ⟨rfl, b10⟩
            go_wp2_with fail
            refine (C171.out _).mono ?_
            rintro e w11 ⟨rfl, b11⟩
            go_wp2_with fail
            go_ret
            have a2 := b1.trans (b2.mono b1.size)
            have a3 := a2.trans (b3.mono a2.size)
            have a4 := a3.trans (b4.mono a3.size)
            have a5 := a4.trans (b5.mono a4.size)
            have a6 := a5.trans (b6.mono a5.size)
            have a7 := a6.trans (b7.mono a6.size)
            have a8 := a7.trans (b8.mono a7.size)
            have a9 := a8.trans (b9.mono a8.size)
            have a10 := a9.trans (b10.mono a9.size)
            have a11 := a10.trans (b11.mono a10.size)
            exact ⟨rfl, a11⟩
          · have d1 : decide (1 ≤ n) = true := by simpa using h1
            have hc := HCS.out n h1
            rw [HKK.out, if_pos h2] at hc
            rw [hc.1] at C13c
            rw [hc.2] at C12c
            have hmin : ∀ (ts : Array TypeId) (t : TypeId) (W : World), (Builtin.min_ ts t #[.int .i64 n, .int .i64 K]).run Tryd.prog W = .ok (.int .i64 K) W := fun ts t W => by
              rw [run_min_int2]; congr 2; exact if_pos h2
            clear hc
            go_enter Tryd.func7, Tryd.ntmps7
            go_wp2_with fail
            refine (alive_any _).mono ?_
            rintro e w1 ⟨rfl, b1⟩
            go_wp2_with fail
            refine (right_any _ _ hs).mono ?_
            rintro e w2 ⟨rfl, b2⟩
            rw [HR.out]
            go_wp2_with fail
            refine (C17.out _).mono ?_
            rintro e w3 ⟨rfl, b3⟩
            go_wp2_with fail
            refine (C13c.out _).mono ?_
            rintro e w4 ⟨rfl, b4⟩
            go_wp2_with fail
            refine (C17.out _).mono ?_
            rintro e w5 ⟨rfl, b5⟩
            go_wp2_with fail
            refine (C12c.out _).mono ?_
            rintro e w6 ⟨rfl, b6⟩
            go_wp2_with fail
            refine (C12.out _).mono ?_
            rintro e w7 ⟨rfl, b7⟩
            go_wp2_with fail
            refine (C9.out _).mono ?_
            rintro e w8 ⟨rfl, b8⟩
            go_wp2_with fail
            refine (C9t.out _).mono ?_
            rintro e w9 ⟨rfl, b9⟩
            go_wp2_with fail
            refine (C12t.out _).mono ?_
            rintro e w10 ⟨rfl, b10⟩
            go_wp2_with fail
            refine (C12.out _).mono ?_
            rintro e w11 ⟨rfl, b11⟩
            go_wp2_with fail
            refine (C12t.out _).mono ?_
            rintro e w12 ⟨rfl, b12⟩
            go_wp2_with fail
            refine (C12.out _).mono ?_
            rintro e w13 ⟨rfl, b13⟩
            go_wp2_with fail
            refine (C13t.out _).mono ?_
            rintro e w14 ⟨rfl, b14⟩
            go_wp2_with fail
            refine (C17t.out _).mono ?_
            rintro e w15 ⟨rfl, b15⟩
            go_wp2_with fail
            refine (C171.out _).mono ?_
            rintro e w16 ⟨rfl, b16⟩
            go_wp2_with fail
            go_ret
            have a2 := b1.trans (b2.mono b1.size)
            have a3 := a2.trans (b3.mono a2.size)
            have a4 := a3.trans (b4.mono a3.size)
            have a5 := a4.trans (b5.mono a4.size)
            have a6 := a5.trans (b6.mono a5.size)
            have a7 := a6.trans (b7.mono a6.size)
            have a8 := a7.trans (b8.mono a7.size)
            have a9 := a8.trans (b9.mono a8.size)
            have a10 := a9.trans (b10.mono a9.size)
            have a11 := a10.trans (b11.mono a10.size)
            have a12 := a11.trans (b12.mono a11.size)
            have a13 := a12.trans (b13.mono a12.size)
            have a14 := a13.trans (b14.mono a13.size)
            have a15 := a14.trans (b15.mono a14.size)
            have a16 := a15.trans (b16.mono a15.size)
            exact ⟨rfl, a16⟩
          · have d1 : decide (1 ≤ n) = true := by simpa using h1
            have hc := HCS.out n h1
            rw [HKK.out, if_neg (by omega)] at hc
            rw [hc.1] at C13c
            rw [hc.2] at C12c
            have hmin : ∀ (ts : Array TypeId) (t : TypeId) (W : World), (Builtin.min_ ts t #[.int .i64 n, .int .i64 K]).run Tryd.prog W = .ok (.int .i64 n) W := fun ts t W => by
              rw [run_min_int2]; congr 2; exact if_neg (by omega)
            clear hc
            go_enter Tryd.func7, Tryd.ntmps7
            go_wp2_with fail
            refine (alive_any _).mono ?_
            rintro e w1 ⟨rfl, b1⟩
            go_wp2_with fail
            refine (right_any _ _ hs).mono ?_
            rintro e w2 ⟨rfl, b2⟩
            rw [HR.out]
            go_wp2_with fail
            refine (C17.out _).mono ?_
            rintro e w3 ⟨rfl, b3⟩
            go_wp2_with fail
            refine (C13c.out _).mono ?_
            rintro e w4 ⟨rfl, b4⟩
            go_wp2_with fail
            refine (C17.out _).mono ?_
            rintro e w5 ⟨rfl, b5⟩
            go_wp2_with fail
            refine (C12c.out _).mono ?_
            rintro e w6 ⟨rfl, b6⟩
            go_wp2_with fail
            refine (C12.out _).mono ?_
            rintro e w7 ⟨rfl, b7⟩
            go_wp2_with fail
            refine (C9.out _).mono ?_
            rintro e w8 ⟨rfl, b8⟩
            go_wp2_with fail
            refine (C9t.out _).mono ?_
            rintro e w9 ⟨rfl, b9⟩
            go_wp2_with fail
            refine (C12t.out _).mono ?_
            rintro e w10 ⟨rfl, b10⟩
            go_wp2_with fail
            refine (C12.out _).mono ?_
            rintro e w11 ⟨rfl, b11⟩
            go_wp2_with fail
            refine (C12t.out _).mono ?_
            rintro e w12 ⟨rfl, b12⟩
            go_wp2_with fail
            refine (C12.out _).mono ?_
            rintro e w13 ⟨rfl, b13⟩
            go_wp2_with fail
            refine (C13t.out _).mono ?_
            rintro e w14 ⟨rfl, b14⟩
            go_wp2_with fail
            refine (C17t.out _).mono ?_
            rintro e w15 ⟨rfl, b15⟩
            go_wp2_with fail
            refine (C171.out _).mono ?_
            rintro e w16 ⟨rfl, b16⟩
            go_wp2_with fail
            go_ret
            have a2 := b1.trans (b2.mono b1.size)
            have a3 := a2.trans (b3.mono a2.size)
            have a4 := a3.trans (b4.mono a3.size)
            have a5 := a4.trans (b5.mono a4.size)
            have a6 := a5.trans (b6.mono a5.size)
            have a7 := a6.trans (b7.mono a6.size)
            have a8 := a7.trans (b8.mono a7.size)
            have a9 := a8.trans (b9.mono a8.size)
            have a10 := a9.trans (b10.mono a9.size)
            have a11 := a10.trans (b11.mono a10.size)
            have a12 := a11.trans (b12.mono a11.size)
            have a13 := a12.trans (b13.mono a12.size)
            have a14 := a13.trans (b14.mono a13.size)
            have a15 := a14.trans (b15.mono a14.size)
            have a16 := a15.trans (b16.mono a15.size)
            exact ⟨rfl, a16⟩

theorem own : ownKnob Tryd.prog.godebug = none := by kernel_rfl

set_option maxRecDepth 100000 in
theorem follows_lifted (os : Os) (started : os.Started) (H : Type) (enc : TypeId × Value → H) :
    ReturnsInHanded {} Tryd.checked os 7 .any (fun w args => (Rows.labelFollowsSpec.pre enc Tryd.prog Tryd.f7 [] false w args ∧ laidMetH Tryd.prog Rows.labelFollowsRow.laid w) ∧ sizedMet enc Tryd.prog Tryd.f7 (OpenSpec.ofChange Rows.labelFollowsSpec) false w args)
      (Rows.labelFollowsSpec.post enc Tryd.prog Tryd.f7 false true false false) := by
  refine returnsInHanded_of_change_and (C := Tryd.checked) (X := fun w _ => laidMetH Tryd.prog Rows.labelFollowsRow.laid w) (fun _ _ _ hh h => h.of_heap hh) own started (by kernel_rfl) Tryd.func7
    (ChangeSpec.witness_shaped (enc := enc) (C := Tryd.checked) (os := os) (X := fun w _ => laidMetH Tryd.prog Rows.labelFollowsRow.laid w) false (World.laidAll Tryd.prog os Rows.labelFollowsRow.laid) #[.string ⟨#[]⟩, .int .i64 0] 8 (World.laidAll_os _ _ _)
      (World.shaped_of_ZipB (by kernel_rfl) (by kernel_rfl)) (by kernel_rfl) (by kernel_rfl) (by kernel_rfl)
      (by rw [MakeChecks.laidMetH_plain _ _ _ (by kernel_rfl)]; exact laidMet_laidAll _ (by kernel_rfl) (by kernel_rfl))) ?_
  intro W base args ds gs before hval0 hW _ _ hL _
  have hval : ∀ (j : Nat) t v, Tryd.f7.params[j]? = some t → args[j]? = some v → Value.okWide Tryd.prog W .any base t v := hval0
  have hW' := hW
  obtain ⟨p, q, hA0, hV, rfl, _, _⟩ := hW
  have hA : DataW.TrodAll enc Tryd.prog W 0 (fun _ => true) true Tryd.f7.params.toList args.toList ds p := hA0
  rw [Tryd.params7] at hA hval
  obtain ⟨v0, v1, d0, d1, p0, p1, rfl, rfl, rfl, h0, h1⟩ := trodAll_two hA
  obtain ⟨rfl, rfl⟩ := trodVars_none hV
  obtain ⟨s0, rfl, rfl, rfl, hs0⟩ := Go.ChangeMaps.open_string Tryd.underlying9 (hval 0 9 v0 rfl rfl) h0
  obtain ⟨x1, rfl, rfl, rfl, wx1⟩ := open_int Tryd.underlying3 (hval 1 3 v1 rfl rfl) h1
  simp only [List.append_nil] at hW'
  refine (follows_walk s0 x1 W hs0 (by simpa [Lit.wf, IntKind.min, IntKind.max, IntKind.signed, IntKind.bits] using wx1)).mono fun e W' ⟨he, hb⟩ => ?_
  subst he
  exact ⟨_, rfl, _, _, _, [], [], [], hW', trodAll_mk1 (shut_bool Tryd.underlying4 _), trodAll_mk2 (Go.ChangeMaps.shut_string Tryd.underlying9 hs0) (shut_int Tryd.underlying3 wx1), rfl, hb.frame _, fun h => by cases h⟩

theorem follows_row : Rows.LabelFollowsSaid :=
  OpenClaim.holds_of_wide 7 Tryd.f7 rfl rfl rfl rfl rfl rfl rfl ⟨rfl, rfl, rfl, rfl, rfl⟩ rfl rfl rfl rfl rfl (by kernel_rfl) Tryd.func7 (by kernel_rfl)
    (of_decide_eq_true (by kernel_rfl)) (by unfold Func.isWrapper; first | (rw [if_pos (by decide +kernel)]; kernel_rfl) | (rw [if_neg (by decide +kernel)]; exact ⟨rfl, rfl⟩))
    (fun os started H enc _ => follows_lifted os started H enc)

theorem labelFollows_holds : Rows.LabelFollowsCardSaid :=
  Claim7.holds_tied_plain_at .later [] [.data, .pinned] true _ false follows_row (fun _ h => by cases h) (by kernel_rfl) (fun _ h => by cases h) labelFollows_row_tie rfl ⟨rfl, rfl⟩ (by kernel_rfl) rfl
    (fun f fn hf hfn => by
      obtain rfl : f = 7 := Option.some.inj ((show Tryd.prog.funcNamed Rows.labelFollowsRow.func = some 7 by kernel_rfl).symm.trans hf) |>.symm
      obtain rfl : fn = Tryd.f7 := (Option.some.inj (Tryd.func7.symm.trans hfn)).symm
      exact ⟨by kernel_rfl, fun j t ht => by
        rw [Tryd.params7] at ht
        have hm : t ∈ [9, 3] := by simpa using Array.mem_of_getElem? ht
        have hall : ([9, 3].all fun u => !Tryd.prog.wantsStandIn u) = true := by kernel_rfl
        exact (show Tryd.prog.wantsStandIn t = false by simpa using List.all_eq_true.1 hall t hm)⟩)
    (by kernel_rfl)
#print axioms labelFollows_holds
end Go.Proofs.YtobicfkbpoimnaaDoor
