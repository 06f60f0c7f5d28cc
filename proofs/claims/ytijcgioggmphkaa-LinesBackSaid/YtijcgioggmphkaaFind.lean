/- What slices.BinarySearchFunc answers of lines that rise, and find of package lines. -/
import Derived.Test.YtijcgioggmphkaaFar
namespace Go.Proofs.Ytijcgioggmphkaa
open Go.RowKit

set_option maxHeartbeats 2000000 in
theorem search_any (a : Option Addr) (cap : Nat) (l : List Ln) (k : ByteArray) (w : World) (h : LnsP w a cap l) (hm : l.length ≤ 1000000) (hs : sortedK l) :
    Calls Try.prog 34 #[.slice a l.length cap, .string k, .func (.func 35) #[] #[]] w fun e w' => e = .returned (.tuple #[.int .i64 (posK l k : Nat), .bool (hasK l k)]) ∧ Below w.heap.size w w' := by
  have H := Lib.hid h
  have HP := Lib.hid (pos_iff l k hs)
  have hpl := posK_le l k
  have HC := Lib.hid (fun hp => has_cmp (k := k) hs hp)
  have HN := Lib.hid (fun hp => has_end (k := k) hs hp)
  clear h hs
  generalize posK l k = P at *
  generalize hasK l k = B at *
  go_enter Try.func34, Try.ntmps34
  go_wp2_with fail
  go_loopw [9, 10] (fun s9 s10 wr => ∃ lo hi : Nat, s9 = .int .i64 lo ∧ s10 = .int .i64 hi ∧ lo ≤ P ∧ P ≤ hi ∧ hi ≤ l.length ∧ Below w.heap.size w wr) (fun s9 s10 _ => (intOf s10).toNat - (intOf s9).toNat)
  case atStart => exact ⟨0, l.length, rfl, rfl, Nat.zero_le _, hpl, Nat.le_refl _, Below.refl _ _⟩
  case round =>
    obtain ⟨lo, hi, rfl, rfl, hlo, hhi, hin, hbw⟩ := hrel
    by_cases hlt : lo < hi
    · have hml : (lo + hi) / 2 < l.length := by omega
      obtain ⟨b, o, rfl, hb, c1, c2, c3, _⟩ := (H.out.below hbw).at _ hml
      have p1 := H.out.cap
      have HI := Lib.hid (HP.out _ hml)
      have C := Lib.hid (fun w => find1_any l[(lo + hi) / 2].sku k l[(lo + hi) / 2].qty l[(lo + hi) / 2].wt w)
      generalize l[(lo + hi) / 2] = y at *
      generalize kcmp y.sku k = c at *
      by_cases hc : c < 0
      · have hmp := HI.out.1 hc
        go_wp2_with fail
        refine (C.out _).mono ?_
        rintro e w1 ⟨rfl, b1⟩
        have b2 := hbw.trans (b1.mono hbw.size)
        go_wp2_with fail
        go_roundw
        case rel => exact ⟨(lo + hi) / 2 + 1, hi, by rw [show ((lo : Int) + (hi : Int)) / 2 + 1 = (((lo + hi) / 2 + 1 : Nat) : Int) by omega], rfl, by omega, hhi, hin, b2⟩
        case measure => simp [intOf]; omega
      · have hmp : ¬ (lo + hi) / 2 < P := fun h => hc (HI.out.2 h)
        go_wp2_with fail
        refine (C.out _).mono ?_
        rintro e w1 ⟨rfl, b1⟩
        have b2 := hbw.trans (b1.mono hbw.size)
        go_wp2_with fail
        go_roundw
        case rel => exact ⟨lo, (lo + hi) / 2, rfl, by rw [show ((lo : Int) + (hi : Int)) / 2 = (((lo + hi) / 2 : Nat) : Int) by omega], hlo, by omega, by omega, b2⟩
        case measure => simp [intOf]; omega
    · obtain rfl : P = lo := by omega
      obtain rfl : hi = P := by omega
      by_cases hn : hi < l.length
      · obtain ⟨b, o, rfl, hb, c1, c2, c3, _⟩ := (H.out.below hbw).at _ hn
        have p1 := H.out.cap
        have HI := Lib.hid (HC.out hn)
        have C := Lib.hid (fun w => find1_any l[hi].sku k l[hi].qty l[hi].wt w)
        generalize l[hi] = y at *
        generalize kcmp y.sku k = c at *
        go_wp2_with fail
        refine (C.out _).mono ?_
        rintro e w1 ⟨rfl, b1⟩
        have b2 := hbw.trans (b1.mono hbw.size)
        go_wp2_with fail
        go_ret2
        exact ⟨by rw [← HI.out]; rfl, b2⟩
      · have HE := Lib.hid (HN.out hn)
        go_wp2_with fail
        go_ret2
        exact ⟨by rw [HE.out]; rfl, hbw⟩

theorem find_any (a : Option Addr) (cap : Nat) (l : List Ln) (k : ByteArray) (w : World) (h : LnsP w a cap l) (hm : l.length ≤ 1000000) (hs : sortedK l) :
    Calls Try.prog 23 #[.slice a l.length cap, .string k] w fun e w' => e = .returned (.tuple #[.int .i64 (posK l k : Nat), .bool (hasK l k)]) ∧ Below w.heap.size w w' := by
  have C := Lib.hid (search_any a cap l k w h hm hs)
  clear h hs
  go_enter Try.func23, Try.ntmps23
  go_wp2_with fail
  refine C.out.mono ?_
  rintro e w1 ⟨rfl, b1⟩
  go_wp2_with fail
  go_ret2
  exact ⟨rfl, b1⟩

end Go.Proofs.Ytijcgioggmphkaa
