/- What Put of package marks answers. -/
import Derived.Test.YtipikkniookanaaMarked
namespace Go.Proofs.Ytipikkniookanaa
set_option maxRecDepth 100000
open Go.RowKit

attribute [local go_sem ↓] ld26 ld66 st26 st66 bx26 al26 al66 bd26 bd66 bs61 bs48 mk48 eq26 ap61 ap48 ap49 cp46 cp48
attribute [local go_sem] bx_agg al_cell al_wr bd_zero bd_one bd_two bd_nine

/-- Whether there is such a place for so many bytes. -/
def okPut (n : Nat) (side : Int) (round : Nat) (at_ : Int) (len : Nat) : Bool := isSideB side && (isRoundB round && (decide (0 ≤ at_) && (decide (at_ < ((n / 2 : Nat) : Int)) && decide (len ≤ 48))))

/-- Put of marks. -/
def Pl.mput (P : Pl) (side : Int) (round : Nat) (at_ : Int) (l : List Nat) : Int × Pl :=
  if okPut P.sure.length side round at_ l.length then P.put ((side.toNat * (P.sure.length / 2) + at_.toNat : Nat) : Int) (markedC (markN round at_.toNat) l) else (81, P)

section
variable {w w1 : World} {R : Nat → Prop} {g bs bl : Nat} {lv : Value} {P : Pl}

theorem PlPost.of_below {r : Int × Pl} (hd : ∀ k, R k → k < w.heap.size) (hb : Below w.heap.size w w1) {e : Ending} {w' : World} (h : PlPost r R g w1 e w') : PlPost r R g w e w' := by
  obtain ⟨h1, ⟨bs, bl, lv, h2⟩, h3⟩ := h
  have hk : Keep R w w' := (Keep.of_below (Keep.refl R w) hb).trans h3 (fun _ _ e => e)
  refine ⟨h1, ⟨bs, bl, lv, h2.mono (fun k hr => ?_) (fun k hr => ?_)⟩, hk⟩
  · rcases hr with hr | hr
    · exact Nat.lt_of_lt_of_le (hd k hr) hk.size
    · exact hr.2
  · rcases hr with hr | hr
    · exact .inl hr
    · exact .inr ⟨Nat.le_trans hb.size hr.1, hr.2⟩

theorem plm_self (h : PlM w R g bs bl lv P) : PlateP w (ext R w w) g P := ⟨bs, bl, lv, h.ext⟩

theorem markN_lt {r k : Nat} (hr : r ≤ 1099511627776) (hk : k ≤ 100000) : markN r k < 18446744073709551616 := by unfold markN; omega

set_option maxHeartbeats 4000000 in
set_option maxRecDepth 100000 in
theorem mput_any (h : PlM w R g bs bl lv P) (side : Int) (round : Nat) (at_ : Int) (a : Option Addr) (cap : Nat) (l : List Nat) (hB : BytesP w a cap l) (hlo : P.loose.length < 100000) :
    Calls Try.prog 54 #[ptr g, .int .i64 side, .int .u64 (round : Int), .int .i64 at_, .slice a l.length cap] w (PlPost (P.mput side round at_ l) R g w) := by
  have CS := Lib.hid (isSide_any side w)
  have CR := Lib.hid (isRound_any round w)
  have CM := Lib.hid (room_any h)
  have hm := h.good.most
  have hl := hB.len
  have KR := Lib.hid (Keep.refl R w)
  have HS := Lib.hid (plm_self h)
  have bad : okPut P.sure.length side round at_ l.length = false → P.mput side round at_ l = (81, P) := fun h => by unfold Pl.mput; rw [h]; rfl
  have BAD := Lib.hid bad
  cases t1 : isSideB side with
  | false =>
    have E := Lib.hid (BAD.out (by simp [okPut, t1]))
    rw [t1] at CS
    clear h bad
    go_enter Try.func54, Try.ntmps54
    go_wp2_with fail
    refine CS.out.mono ?_
    rintro e w' ⟨rfl, rfl⟩
    go_wp2_with fail
    go_ret
    rw [E.out]
    exact ⟨rfl, HS.out, KR.out⟩
  | true =>
  rw [t1] at CS
  cases t2 : isRoundB round with
  | false =>
    have E := Lib.hid (BAD.out (by simp [okPut, t2]))
    rw [t2] at CR
    clear h bad
    go_enter Try.func54, Try.ntmps54
    go_wp2_with fail
    refine CS.out.mono ?_
    rintro e w' ⟨rfl, rfl⟩
    go_wp2_with fail
    refine CR.out.mono ?_
    rintro e w' ⟨rfl, rfl⟩
    go_wp2_with fail
    go_ret
    rw [E.out]
    exact ⟨rfl, HS.out, KR.out⟩
  | true =>
  rw [t2] at CR
  cases t3 : decide (at_ < 0) with
  | true =>
    have E := Lib.hid (BAD.out (by simp at t3; simp [okPut]; omega))
    clear h bad
    go_enter Try.func54, Try.ntmps54
    go_wp2_with fail
    refine CS.out.mono ?_
    rintro e w' ⟨rfl, rfl⟩
    go_wp2_with fail
    refine CR.out.mono ?_
    rintro e w' ⟨rfl, rfl⟩
    go_wp2_with fail
    go_ret
    rw [E.out]
    exact ⟨rfl, HS.out, KR.out⟩
  | false =>
  obtain ⟨k, rfl⟩ := Int.eq_ofNat_of_zero_le (show 0 ≤ at_ by simp at t3; omega)
  by_cases t4 : P.sure.length / 2 ≤ k
  · have E := Lib.hid (BAD.out (by simp [okPut]; omega))
    clear h bad
    generalize P.sure.length / 2 = n at *
    go_enter Try.func54, Try.ntmps54
    go_wp2_with fail
    refine CS.out.mono ?_
    rintro e w' ⟨rfl, rfl⟩
    go_wp2_with fail
    refine CR.out.mono ?_
    rintro e w' ⟨rfl, rfl⟩
    go_wp2_with fail
    refine CM.out.mono ?_
    rintro e w' ⟨rfl, rfl⟩
    go_wp2_with fail
    go_ret
    rw [E.out]
    exact ⟨rfl, HS.out, KR.out⟩
  cases t5 : decide ((l.length : Int) > 48) with
  | true =>
    have E := Lib.hid (BAD.out (by simp at t5; simp [okPut]; omega))
    clear h bad
    generalize P.sure.length / 2 = n at *
    go_enter Try.func54, Try.ntmps54
    go_wp2_with fail
    refine CS.out.mono ?_
    rintro e w' ⟨rfl, rfl⟩
    go_wp2_with fail
    refine CR.out.mono ?_
    rintro e w' ⟨rfl, rfl⟩
    go_wp2_with fail
    refine CM.out.mono ?_
    rintro e w' ⟨rfl, rfl⟩
    go_wp2_with fail
    go_ret
    rw [E.out]
    exact ⟨rfl, HS.out, KR.out⟩
  | false =>
  obtain ⟨sd, rfl⟩ := Int.eq_ofNat_of_zero_le (show 0 ≤ side by simp [isSideB] at t1; omega)
  have hl48 : l.length ≤ 48 := by simp at t5; omega
  have hsd : sd ≤ 1 := by simp [isSideB] at t1; omega
  have hrd : round ≤ 1099511627776 := by simp [isRoundB] at t2; omega
  have hk : k ≤ 100000 := by omega
  have E := Lib.hid (show P.mput (sd : Int) round (k : Int) l = P.put ((sd * (P.sure.length / 2) + k : Nat) : Int) (markedC (markN round k) l) by
    unfold Pl.mput
    rw [show okPut P.sure.length (sd : Int) round (k : Int) l.length = true by unfold okPut; rw [t1, t2]; simp; omega]
    rfl)
  have CC := Lib.hid (cellOf_any h sd k hsd hk)
  have CK := Lib.hid (markOf_any round k hrd hk w)
  have CD := Lib.hid (marked_any (markN round k) (markN_lt hrd hk) a cap l w hB hl48)
  have CP := Lib.hid (fun W (b : Below w.heap.size w W) => put_any (h.below b) ((sd * (P.sure.length / 2) + k : Nat) : Int) (markedC_is (markN round k) hl48 hB.byte) hlo)
  have HD := Lib.hid h.dom
  generalize markN round k = mk at *
  generalize sd * (P.sure.length / 2) + k = at2 at *
  generalize markedC mk l = mc at *
  clear h bad
  generalize P.sure.length / 2 = n at *
  go_enter Try.func54, Try.ntmps54
  go_wp2_with fail
  refine CS.out.mono ?_
  rintro e w' ⟨rfl, rfl⟩
  go_wp2_with fail
  refine CR.out.mono ?_
  rintro e w' ⟨rfl, rfl⟩
  go_wp2_with fail
  refine CM.out.mono ?_
  rintro e w' ⟨rfl, rfl⟩
  go_wp2_with fail
  refine CC.out.mono ?_
  rintro e w' ⟨rfl, rfl⟩
  go_wp2_with fail
  refine CK.out.mono ?_
  rintro e w' ⟨rfl, rfl⟩
  go_wp2_with fail
  refine CD.out.mono ?_
  rintro e w1 ⟨rfl, b1⟩
  have C2 := Lib.hid (CP.out _ b1)
  have B1 := Lib.hid b1
  clear b1
  go_wp2_with fail
  refine C2.out.mono ?_
  rintro e w2 h2
  obtain ⟨h3, h4⟩ := PlPost.of_below HD.out B1.out h2
  subst h3
  have H4 := Lib.hid h4
  clear h2 h4
  go_wp2_with fail
  go_ret
  rw [E.out]
  exact ⟨rfl, H4.out⟩
end

end Go.Proofs.Ytipikkniookanaa
