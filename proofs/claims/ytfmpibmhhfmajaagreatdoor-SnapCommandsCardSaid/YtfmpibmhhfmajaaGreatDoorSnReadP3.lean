/- What Read of package snap answers, of any bytes. -/
import Derived.Test.YtfmpibmhhfmajaaGreatDoorSnReadP2
import Derived.Test.YtfmpibmhhfmajaaGreatDoorMgProg
namespace Go.Proofs.YtfmpibmhhfmajaaGreatDoor
set_option maxRecDepth 100000
open Go.RowKit Go.ChangeShapes Go.WideShapes Go.ChangeAt
attribute [local go_sem ↓] ldOr stOr alOr bxOr bdOr ldBa stBa alBa bxBa bdBa ldSt stSt alSt bxSt bdSt bsOr3 bsBa3
attribute [local go_sem] al_or bx_or st_ornew bd_or al_ba bx_ba st_banew bd_ba al_sta bx_sta st_stnew bd_sta bs_or3 bs_ba3

/-- The result's variable, the state that was read in its own. -/
structure ReJ (w : World) (c : Nat) (r : StR) (W : World) : Prop where
  res : Row W w.heap.size 37 (stC noStR)
  out : Row W c 37 (stC r)
  low : Below w.heap.size w W
theorem ReJ.below {w W W' : World} {c : Nat} {r : StR} (h : ReJ w c r W) (b : Below W.heap.size W W') : ReJ w c r W' := ⟨h.res.below b, h.out.below b, h.low.trans (b.mono h.low.size)⟩

set_option maxHeartbeats 4000000 in
theorem read_of : ReadC := by
  intro a cap l w h hl
  have HB := Lib.hid h.byte
  have b0 := (Below.refl w.heap.size w).alloc (Nat.le_refl _) (.cells (stC noStR) 37)
  have C1 := Lib.hid (new_any a cap l _ (h.below b0) hl)
  have R0 := Lib.hid (Row.new w (stC noStR) 37)
  have B0 := Lib.hid b0
  have hz : w.heap.size ≤ (w.alloc (.cells (stC noStR) 37)).heap.size := by simp
  clear h b0
  go_enter Tryz.func11, Tryz.ntmps11
  go_wp2_with fail
  generalize w.alloc (.cells (stC noStR) 37) = W0 at *
  refine C1.out.mono ?_
  rintro e w1 ⟨g, rfl, r1, b1, hg⟩
  have R1 := Lib.hid (R0.out.below b1)
  have B1 := Lib.hid (B0.out.trans (b1.mono B0.out.size))
  have hw1 := R1.out.lt
  have hR0 := R0.out.lt
  have hzz : w.heap.size < g := by omega
  have C2 := Lib.hid (readState_any w1 g l (.inr ⟨l, 0, by simp, r1⟩) hl)
  clear r1 b1 C1 R0 B0 hg hz
  go_wp2_with fail
  refine C2.out.mono ?_
  rintro e w2 ⟨r, ok, rfl, b2, hc⟩
  have I : Hid (ReJ w w2.heap.size r (w2.alloc (.cells (stC r) 37))) := Lib.hid (by
    have b := (Below.refl w2.heap.size w2).alloc (Nat.le_refl _) (.cells (stC r) 37)
    have b3 := B1.out.trans (b2.below (by omega) B1.out.size)
    exact ⟨(R1.out.but b2 (by omega)).below b, Row.new _ _ _, b3.trans (b.mono b3.size)⟩)
  have hw2 := b2.size
  clear b2 C2 R1 B1
  rcases hc with ⟨rfl, hno⟩ | ⟨rfl, s, hs, ow, ft, rd⟩
  · have HX := read_none (by decide) (by decide) HB.out hl hno
    clear hno
    have s1 := st_sta I.out.res noStR
    go_wp2_with fail
    (try simp only [Exit.inBlock, Exit.then])
    apply bodyPost_ret
    case hd => rfl
    case hr => exact results_cell_one rfl _ _ w.heap.size _ rfl (load12 (setRow_heap _ _ _ _ _ _ I.out.res))
    case hR => exact ⟨noStR, by rw [HX.2]; rfl, by rw [HX.1]; rfl, StP.none _, Below.row I.out.low (Nat.le_refl _) _⟩
  · have bb := (Below.refl w2.heap.size w2).alloc (Nat.le_refl _) (.cells (stC r) 37)
    have OW : Hid (OwnSt (w2.alloc (.cells (stC r) 37)) (w.heap.size + 1) r) := Lib.hid ((ow.keep fun k _ k2 => bb.block k k2).base (by omega))
    have RD := Lib.hid (rd.below bb)
    have HS := Lib.hid hs
    have FT := Lib.hid ft
    clear ow rd hs ft bb
    go_wp2_with fail
    generalize w2.alloc (.cells (stC r) 37) = W at *
    generalize w2.heap.size = c at *
    refine (rd_done_any W g _ RD.out).mono ?_
    rintro e w3 ⟨rfl, b3⟩
    replace I := Lib.hid (I.out.below b3)
    replace OW := Lib.hid (OW.out.keep fun k _ k2 => b3.block k k2)
    clear b3 RD
    cases hq : (s == some []) with
    | false =>
      have HX := read_not (by decide) (by decide) HB.out hl HS.out (by rw [hq]; rfl)
      have s1 := st_sta I.out.res noStR
      go_wp2_with fail
      (try simp only [Exit.inBlock, Exit.then])
      apply bodyPost_ret
      case hd => rfl
      case hr => exact results_cell_one rfl _ _ w.heap.size _ rfl (load12 (setRow_heap _ _ _ _ _ _ I.out.res))
      case hR => exact ⟨noStR, by rw [HX.2]; rfl, by rw [HX.1]; rfl, StP.none _, Below.row I.out.low (Nat.le_refl _) _⟩
    | true =>
      have la := ld_sta I.out.out
      have CR := Lib.hid (right_of r w3 (stP_own OW.out FT.out) (few_of HB.out hl HS.out hq FT.out))
      go_wp2_with fail
      refine CR.out.mono ?_
      rintro e w4 ⟨rfl, b4⟩
      replace I := Lib.hid (I.out.below b4)
      replace OW := Lib.hid (OW.out.keep fun k _ k2 => b4.block k k2)
      clear la CR b4
      cases hx : rightS r.st with
      | false =>
        have HX := read_not (by decide) (by decide) HB.out hl HS.out (by rw [hx, Bool.and_false])
        have s1 := st_sta I.out.res noStR
        go_wp2_with fail
        (try simp only [Exit.inBlock, Exit.then])
        apply bodyPost_ret
        case hd => rfl
        case hr => exact results_cell_one rfl _ _ w.heap.size _ rfl (load12 (setRow_heap _ _ _ _ _ _ I.out.res))
        case hR => exact ⟨noStR, by rw [HX.2]; rfl, by rw [HX.1]; rfl, StP.none _, Below.row I.out.low (Nat.le_refl _) _⟩
      | true =>
        have HX := read_yes (by decide) (by decide) HB.out hl HS.out hq hx
        have la := ld_sta I.out.out
        have s1 := st_sta I.out.res r
        go_wp2_with fail
        (try simp only [Exit.inBlock, Exit.then])
        apply bodyPost_ret
        case hd => rfl
        case hr => exact results_cell_one rfl _ _ w.heap.size _ rfl (load12 (setRow_heap _ _ _ _ _ _ I.out.res))
        case hR => exact ⟨r, by rw [HX.2]; rfl, HX.1.symm, stP_own (OW.out.keep fun k h1 h2 => setRow_other _ _ k _ (by omega)) FT.out, Below.row I.out.low (Nat.le_refl _) _⟩
end Go.Proofs.YtfmpibmhhfmajaaGreatDoor
