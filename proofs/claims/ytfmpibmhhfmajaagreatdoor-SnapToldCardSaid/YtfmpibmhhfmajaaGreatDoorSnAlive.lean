/- The example of stage 16's laws. -/
import Derived.Test.YtfmpibmhhfmajaaGreatDoorSnCon
namespace Go.Proofs.YtfmpibmhhfmajaaGreatDoor
set_option maxRecDepth 100000
open Go.RowKit Go.ChangeShapes Go.WideShapes Go.ChangeAt
attribute [local go_sem ↓] ldCm stCm alCm bxCm bdCm ldSt stSt alSt bxSt bdSt
attribute [local go_sem] al_cm bx_cm st_cmnew bd_cm bd_cmKind al_sta bx_sta st_stnew bd_sta

set_option maxHeartbeats 4000000 in
theorem snapAlive_of (HN : NewC) (HS : StateC) (HR : ReadC) (HC : CommandC) (HE : SameC) : AliveC := by
  intro w hk
  have HK := Lib.hid hk
  clear hk
  show Calls Tryz.prog 12 #[] w (Tell true w)
  have CN := Lib.hid (HN ⟨1, 2⟩ ⟨3, 4⟩ 5 (some ⟨w.heap.size, 0, none⟩) 1 [6] (w.alloc (.cells #[.int .i64 6] 3)) (ints_one w 6 3) (by decide))
  have B0 : Hid (Below w.heap.size w (w.alloc (.cells #[.int .i64 6] 3))) := Lib.hid ((Below.refl _ _).alloc (Nat.le_refl _) _)
  rw [exS_new.1, exS_new.2] at CN
  go_enter Tryz.func12, Tryz.ntmps12
  go_wp2_with fail
  generalize w.alloc (.cells #[.int .i64 6] 3) = W0 at *
  refine CN.out.mono ?_
  rintro e w1 ⟨r, rfl, hr, hP, b1⟩
  have y2 : r.ords.length = 0 := by
    have : odsOf r.ords = [] := (congrArg St.ords hr)
    have := congrArg List.length this
    simpa [odsOf] using this
  have y3 : r.bats.length = 0 := by
    have : btsOf r.bats = [] := (congrArg St.bats hr)
    have := congrArg List.length this
    simpa [btsOf] using this
  have y4 : r.effs.length = 0 := by
    have : r.effs = [] := (congrArg St.effs hr)
    rw [this]
    rfl
  have hF : Hid (FitS r) := Lib.hid (fit_of (by rw [hr]; exact exS_right) (by omega) (by omega) (by omega))
  have B1 := Lib.hid (B0.out.trans (b1.mono B0.out.size))
  have I1 := Lib.hid (OnI.begin w1 r hP)
  have B2 := Lib.hid (B1.out.alloc B1.out.size (.cells (stC r) 37))
  clear hr y2 y3 y4 hP b1 B0 CN B1
  have la := ld_sta I1.out.one
  go_wp2_with fail
  generalize w1.alloc (.cells (stC r) 37) = W1 at *
  refine (HS r W1 I1.out.st hF.out).mono ?_
  rintro e w2 ⟨v2, rfl, o2, b2⟩
  obtain ⟨a2, p2, rfl, h2⟩ := o2.bytes (stateL_bytes r.st)
  have I2 := Lib.hid (I1.out.below b2)
  have B3 := Lib.hid (B2.out.trans (b2.mono B2.out.size))
  have H2 := Lib.hid h2
  clear la o2 b2 h2 I1 B2
  go_wp2_with fail
  refine (HR a2 p2 (stateL r.st) w2 H2.out hF.out.2).mono ?_
  rintro e w3 ⟨t, rfl, ht, hPt, b3⟩
  rw [(fit_read hF.out).2]
  have ht : Hid (t.st = r.st) := Lib.hid (ht.trans (fit_read hF.out).1)
  have I3 := Lib.hid (I2.out.below b3)
  have B4 := Lib.hid (B3.out.trans (b3.mono B3.out.size))
  have I4 := Lib.hid (I3.out.more (.cells (stC t) 37))
  have R4 := Lib.hid (Row.new w3 (stC t) 37)
  have P4 := Lib.hid (hPt.below ((Below.refl w3.heap.size w3).alloc (Nat.le_refl _) (.cells (stC t) 37)))
  have B5 := Lib.hid (B4.out.alloc B4.out.size (.cells (stC t) 37))
  clear I2 I3 B3 B4 hPt b3 H2
  go_wp2_with fail
  generalize w3.alloc (.cells (stC t) 37) = W3 at *
  generalize w3.heap.size = g3 at *
  refine (HC (kindR 6) W3 (HK.out.below B5.out) ⟨LnsP.nil _ _ _, by decide, by decide, by decide, by decide, by decide⟩ exC_right.1).mono ?_
  rintro e w4 ⟨v4, rfl, o4, b4⟩
  rw [exC_right.2] at o4
  obtain ⟨a4, p4, rfl, h4⟩ := o4.bytes (fun y hy => by rw [List.mem_singleton.1 hy]; decide)
  have t4 : (convert 40 9 (.slice a4 1 p4)).run Tryz.prog w4 = .ok (.string (strB [6])) w4 := run_text h4
  rw [show strB [6] = ⟨#[6]⟩ from by decide +kernel] at t4
  have I5 := Lib.hid (I4.out.below b4)
  have R5 := Lib.hid (R4.out.below b4)
  have P5 := Lib.hid (P4.out.below b4)
  have B6 := Lib.hid (B5.out.trans (b4.mono B5.out.size))
  have la := ld_sta I5.out.one
  have lb := ld_sta R5.out
  clear o4 b4 h4 I4 R4 P4 B5
  have CE := Lib.hid (HE r t w4 I5.out.st P5.out)
  rw [(sameS_iff r t).2 ht.out.symm] at CE
  go_wp2_with fail
  refine CE.out.mono ?_
  rintro e w5 ⟨rfl, b5⟩
  have B7 := Lib.hid (B6.out.trans (b5.mono B6.out.size))
  clear CE la lb t4 b5
  go_wp2_with fail
  go_ret
  exact ⟨rfl, B7.out⟩
end Go.Proofs.YtfmpibmhhfmajaaGreatDoor
