/- Package state: Same, Copy, and cutting. -/
import Derived.Test.YtfmpibmhhfmajaaGreatDoorMgProg
import Derived.Test.YtfmpibmhhfmajaaGreatDoorMgStates
import Derived.Test.YtfmpibmhhfmajaaGreatDoorMgEffects
import Derived.Test.YtfmpibmhhfmajaaGreatDoorMgBatches
import Derived.Test.YtfmpibmhhfmajaaGreatDoorMgOrders
import Derived.Test.YtfmpibmhhfmajaaGreatDoorPDy
import Derived.Test.YtfmpibmhhfmajaaGreatDoorPSl
import Derived.Deep.RegionLaw
import Derived.ArgAppend
namespace Go.Proofs.YtfmpibmhhfmajaaGreatDoor
/- StSameP: What package state's Same answers. -/
section
set_option maxRecDepth 100000
open Go.RowKit Go.ChangeShapes Go.WideShapes Go.ChangeAt
attribute [local go_sem ↓] ldOr stOr alOr bxOr bdOr ldBa stBa alBa bxBa bdBa ldSt stSt alSt bxSt bdSt ldEf stEf alEf bxEf eqEf bdEf bsEf ldGr bxGr eqGr ldCa bxCa eqCa
attribute [local go_sem] al_or bx_or st_ornew bd_or al_ba bx_ba st_banew bd_ba al_sta bx_sta st_stnew bd_sta al_ef bx_ef st_new bd_ef bs_ef bs_ef0 bx_gr ne_gr bx_ca ne_ca eq_caX eq_grX

set_option maxHeartbeats 2000000 in
theorem equalI_any (a1 a2 : Option Addr) (c1 c2 : Nat) (l m : List Int) (w : World) (h1 : IntsP w a1 c1 l) (h2 : IntsP w a2 c2 m) (hl : l.length ≤ maxLen) (_hm : m.length ≤ maxLen) :
    Calls Tryz.prog 98 #[.slice a1 l.length c1, .slice a2 m.length c2] w (Tell (sameI l m) w) := by
  have H1 := Lib.hid h1
  have H2 := Lib.hid h2
  have p1 := h1.cap
  have p2 := h2.cap
  unfold maxLen at hl
  clear h1 h2
  by_cases hq : l.length = m.length
  · have hqi : ((l.length : Int) != (m.length : Int)) = false := by simp; omega
    have HQ := Lib.hid hq
    clear hq
    go_enter Tryz.func98, Tryz.ntmps98
    go_wp2_with fail
    go_loopw [13] (fun i wr => ∃ (k : Nat), k ≤ l.length ∧ i = .int .i64 k ∧ Hid (sameI l m = sameI (l.drop k) (m.drop k)) ∧ Below w.heap.size w wr) (fun i _ => l.length - (intOf i).toNat)
    case atStart => exact ⟨0, Nat.zero_le _, rfl, Lib.hid rfl, Below.refl _ _⟩
    case round =>
      obtain ⟨k, hk, rfl, HF, hbw⟩ := hrel
      by_cases hlt : k < l.length
      · have hlt2 : k < m.length := by have := HQ.out; omega
        obtain ⟨b, o, rfl, hb, e1⟩ := (H1.out.below hbw).at k hlt
        obtain ⟨b2, o2, rfl, hb2, e2⟩ := (H2.out.below hbw).at k hlt2
        have HD := Lib.hid (show sameI (l.drop k) (m.drop k) = ((l[k] == m[k]) && sameI (l.drop (k + 1)) (m.drop (k + 1))) from sameBy_step hlt hlt2)
        generalize l[k] = x at *
        generalize m[k] = y at *
        have f1 : ∀ q : Far wr, (farOf wr q).cell? ⟨b, o + k, none⟩ = some (.int .i64 x) := far_cell hb e1
        have f2 : ∀ q : Far wr, (farOf wr q).cell? ⟨b2, o2 + k, none⟩ = some (.int .i64 y) := far_cell hb2 e2
        cases hx : (x == y) with
        | false =>
          have hxd : (x != y) = true := by simp only [bne, hx]; rfl
          have HX := Lib.hid (show sameI l m = false by rw [HF.out, HD.out, hx, Bool.false_and])
          go_wp2_with fail
          refine wp_region_far (by kernel_rfl) (by kernel_rfl) ?_
          repeat (first | go_big_quiet_step (fail) | quiet_step (fail))
          refine wpQuiet_nil ?_
          intro _ hw'
          obtain ⟨q, hw''⟩ := hw'
          subst hw''
          have hb5 := hbw.trans ((far_below wr q).mono hbw.size)
          go_wp2_with fail
          go_ret
          exact ⟨by rw [HX.out]; try rfl, hb5⟩
        | true =>
          have hxd : (x != y) = false := by simp only [bne, hx]; rfl
          have HN := Lib.hid (show sameI l m = sameI (l.drop (k + 1)) (m.drop (k + 1)) by rw [HF.out, HD.out, hx, Bool.true_and])
          go_wp2_with fail
          refine wp_region_far (by kernel_rfl) (by kernel_rfl) ?_
          repeat (first | go_big_quiet_step (fail) | quiet_step (fail))
          refine wpQuiet_nil ?_
          intro _ hw'
          obtain ⟨q, hw''⟩ := hw'
          subst hw''
          have hb5 := hbw.trans ((far_below wr q).mono hbw.size)
          go_wp2_with fail
          go_roundw
          case rel => exact ⟨k + 1, by omega, by go_num, HN, hb5⟩
          case measure => simp [intOf]; omega
      · have HX := Lib.hid (show sameI l m = true by rw [HF.out, List.drop_eq_nil_of_le (by omega), List.drop_eq_nil_of_le (by have := HQ.out; omega)]; rfl)
        go_wp2_with fail
        go_ret
        exact ⟨by rw [HX.out]; try rfl, hbw⟩
  · have hqi : ((l.length : Int) != (m.length : Int)) = true := by simp; omega
    have HX := Lib.hid (show sameI l m = false from sameBy_len hq)
    clear hq
    go_enter Tryz.func98, Tryz.ntmps98
    go_wp2_with fail
    go_ret
    exact ⟨by rw [HX.out]; try rfl, Below.refl _ _⟩


set_option maxHeartbeats 4000000 in
theorem equalE_any (a b : Option Addr) (ca cb : Nat) (l m : List Ef) (w : World) (h1 : SlP LE w a ca l) (h2 : SlP LE w b cb m) : Calls Tryz.prog 103 #[.slice a l.length ca, .slice b m.length cb] w (Tell (sameE l m) w) := by
  have H1 := Lib.hid h1
  have H2 := Lib.hid h2
  have k1 := h1.cap
  have k2 := h2.cap
  have hlm := h1.len
  have hlm2 := h2.len
  unfold maxLen at hlm hlm2
  clear h1 h2
  by_cases hl : l.length = m.length
  · have hq : ((l.length : Int) != (m.length : Int)) = false := by rw [hl]; simp
    go_enter Tryz.func103, Tryz.ntmps103
    go_wp2_with fail
    go_loopw [13] (fun i wr => ∃ k : Nat, k ≤ l.length ∧ i = .int .i64 k ∧ Hid (sameE l m = sameE (l.drop k) (m.drop k)) ∧ Below w.heap.size w wr) (fun i _ => l.length - (intOf i).toNat)
    case atStart => exact ⟨0, Nat.zero_le _, rfl, Lib.hid rfl, Below.refl _ _⟩
    case round =>
      obtain ⟨k, hk, rfl, HS, hbw⟩ := hrel
      by_cases hlt : k < l.length
      · have hlt2 : k < m.length := by omega
        obtain ⟨b1, o1, rfl, q1, ld1, _⟩ := (H1.out.below hbw).ef k hlt
        obtain ⟨b2, o2, rfl, q2, ld2, _⟩ := (H2.out.below hbw).ef k hlt2
        have ld1d : LdX 138 (.pointer (some ⟨b1, o1 + k * 6, none⟩)) wr.drew = .ok (.value (efV l[k])) wr.drew := ((H1.out.below hbw).below ((Below.refl _ _).drew)).ef k hlt |>.elim fun b' h => h.elim fun o' h => by
          obtain ⟨e, _, h, _⟩ := h
          injection e with e
          injection e with e1 e2
          subst e1 e2
          exact h
        have ld2d : LdX 138 (.pointer (some ⟨b2, o2 + k * 6, none⟩)) wr.drew = .ok (.value (efV m[k])) wr.drew := ((H2.out.below hbw).below ((Below.refl _ _).drew)).ef k hlt2 |>.elim fun b' h => h.elim fun o' h => by
          obtain ⟨e, _, h, _⟩ := h
          injection e with e
          injection e with e1 e2
          subst e1 e2
          exact h
        have HN := Lib.hid (HS.out.trans (sameE_step hlt hlt2))
        have ne := fun W a b => ne_ef W l[k] m[k] a b
        have B2 := Lib.hid hbw.drew
        generalize l[k] = x at *
        generalize m[k] = y at *
        generalize hE : eqB x y = E at *
        go_wp2_with fail
        go_region
        cases E with
        | false =>
          go_wp2_with fail
          go_ret
          exact ⟨by rw [HN.out]; rfl, B2.out⟩
        | true =>
          go_wp2_with fail
          go_roundw
          case rel => exact ⟨k + 1, hlt, by go_num, Lib.hid (by rw [HN.out, Bool.true_and]), B2.out⟩
          case measure => simp [intOf]; omega
      · have HE := Lib.hid (show sameE l m = true by rw [HS.out, List.drop_eq_nil_of_le (by omega), List.drop_eq_nil_of_le (by omega)]; rfl)
        go_wp2_with fail
        go_ret
        exact ⟨by rw [HE.out]; rfl, hbw⟩
  · have hq : ((l.length : Int) != (m.length : Int)) = true := by simp; omega
    have HE := Lib.hid (sameE_len hl)
    go_enter Tryz.func103, Tryz.ntmps103
    go_wp2_with fail
    go_ret
    exact ⟨by rw [HE.out]; rfl, Below.refl _ _⟩


set_option maxHeartbeats 8000000 in
theorem equalOs_any (a1 a2 : Option Addr) (c1 c2 : Nat) (l m : List OdR) (w : World) (h1 : OrsP w a1 c1 l) (h2 : OrsP w a2 c2 m) :
    Calls Tryz.prog 99 #[.slice a1 l.length c1, .slice a2 m.length c2, .func (.func 100) #[] #[]] w (Tell (sameOs l m) w) := by
  have H1 := Lib.hid h1
  have H2 := Lib.hid h2
  have p1 := h1.sl.cap
  have p2 := h2.sl.cap
  have hl := h1.sl.len
  unfold maxLen at hl
  clear h1 h2
  by_cases hq : l.length = m.length
  · have hqi : ((l.length : Int) != (m.length : Int)) = false := by simp; omega
    have HQ := Lib.hid hq
    clear hq
    go_enter Tryz.func99, Tryz.ntmps99
    go_wp2_with fail
    go_loopw [17] (fun i wr => ∃ (k : Nat), k ≤ l.length ∧ i = .int .i64 k ∧ Hid (sameOs l m = sameOs (l.drop k) (m.drop k)) ∧ Hid (Below w.heap.size w wr)) (fun i _ => l.length - (intOf i).toNat)
    case atStart => exact ⟨0, Nat.zero_le _, rfl, Lib.hid rfl, Lib.hid (Below.refl _ _)⟩
    case round =>
      obtain ⟨k, hk, rfl, HF, HB⟩ := hrel
      by_cases hlt : k < l.length
      · have hlt2 : k < m.length := by have := HQ.out; omega
        have BW1 := Lib.hid ((Below.refl wr.heap.size wr).alloc (Nat.le_refl _) (.cells (orC l[k]) 93))
        obtain ⟨b, o, rfl, hb, _, ld1, P1⟩ := (H1.out.below HB.out).ld k hlt
        obtain ⟨b2, o2, rfl, hb2, _, ld2, P2⟩ := ((H2.out.below HB.out).below BW1.out).ld k hlt2
        have HD := Lib.hid (show sameOs (l.drop k) (m.drop k) = (sameO l[k].o m[k].o && sameOs (l.drop (k + 1)) (m.drop (k + 1))) from sameBy_step hlt hlt2)
        have PP1 := Lib.hid (P1.below BW1.out)
        have PP2 := Lib.hid P2
        clear P1 P2
        generalize l[k] = x at *
        generalize m[k] = y at *
        have BW2 := Lib.hid ((Below.refl (wr.alloc (.cells (orC x) 93)).heap.size (wr.alloc (.cells (orC x) 93))).alloc (Nat.le_refl _) (.cells (orC y) 93))
        have R1 := Lib.hid ((Row.new wr (orC x) 93).more (.cells (orC y) 93))
        have R2 := Row.new (wr.alloc (.cells (orC x) 93)) (orC y) 93
        rw [show (wr.alloc (.cells (orC x) 93)).heap.size = wr.heap.size + 1 by simp] at R2
        have st2 := st_ornew (wr.alloc (.cells (orC x) 93)) y
        rw [show (wr.alloc (.cells (orC x) 93)).heap.size = wr.heap.size + 1 by simp] at st2
        have la := ld_or R1.out
        have lb := ld_or R2
        have CS := Lib.hid (oSame_any x.a y.a x.c y.c x.o y.o ((wr.alloc (.cells (orC x) 93)).alloc (.cells (orC y) 93)) (PP1.out.below BW2.out) (PP2.out.below BW2.out))
        have B2 := Lib.hid (HB.out.trans ((BW1.out.trans (BW2.out.mono BW1.out.size)).mono HB.out.size))
        clear R2
        go_wp2_with fail
        generalize (wr.alloc (.cells (orC x) 93)).alloc (.cells (orC y) 93) = W2 at *
        refine CS.out.mono ?_
        rintro e w3 ⟨rfl, b3⟩
        have B3 := Lib.hid (B2.out.trans (b3.mono B2.out.size))
        clear la lb b3 CS st2 ld1 ld2
        cases hx : sameO x.o y.o with
        | false =>
          have HX := Lib.hid (show sameOs l m = false by rw [HF.out, HD.out, hx, Bool.false_and])
          go_wp2_with fail
          go_ret
          exact ⟨by rw [HX.out]; try rfl, B3.out⟩
        | true =>
          have HN := Lib.hid (show sameOs l m = sameOs (l.drop (k + 1)) (m.drop (k + 1)) by rw [HF.out, HD.out, hx, Bool.true_and])
          go_wp2_with fail
          go_roundw
          case rel => exact ⟨k + 1, by omega, by go_num, HN, B3⟩
          case measure => simp [intOf]; omega
      · have HX := Lib.hid (show sameOs l m = true by rw [HF.out, List.drop_eq_nil_of_le (by omega), List.drop_eq_nil_of_le (by have := HQ.out; omega)]; rfl)
        go_wp2_with fail
        go_ret
        exact ⟨by rw [HX.out]; try rfl, HB.out⟩
  · have hqi : ((l.length : Int) != (m.length : Int)) = true := by simp; omega
    have HX := Lib.hid (show sameOs l m = false from sameBy_len hq)
    clear hq
    go_enter Tryz.func99, Tryz.ntmps99
    go_wp2_with fail
    go_ret
    exact ⟨by rw [HX.out]; try rfl, Below.refl _ _⟩

set_option maxHeartbeats 8000000 in
theorem equalBs_any (a1 a2 : Option Addr) (c1 c2 : Nat) (l m : List BtR) (w : World) (h1 : BasP w a1 c1 l) (h2 : BasP w a2 c2 m) :
    Calls Tryz.prog 101 #[.slice a1 l.length c1, .slice a2 m.length c2, .func (.func 102) #[] #[]] w (Tell (sameBs l m) w) := by
  have H1 := Lib.hid h1
  have H2 := Lib.hid h2
  have p1 := h1.sl.cap
  have p2 := h2.sl.cap
  have hl := h1.sl.len
  unfold maxLen at hl
  clear h1 h2
  by_cases hq : l.length = m.length
  · have hqi : ((l.length : Int) != (m.length : Int)) = false := by simp; omega
    have HQ := Lib.hid hq
    clear hq
    go_enter Tryz.func101, Tryz.ntmps101
    go_wp2_with fail
    go_loopw [17] (fun i wr => ∃ (k : Nat), k ≤ l.length ∧ i = .int .i64 k ∧ Hid (sameBs l m = sameBs (l.drop k) (m.drop k)) ∧ Hid (Below w.heap.size w wr)) (fun i _ => l.length - (intOf i).toNat)
    case atStart => exact ⟨0, Nat.zero_le _, rfl, Lib.hid rfl, Lib.hid (Below.refl _ _)⟩
    case round =>
      obtain ⟨k, hk, rfl, HF, HB⟩ := hrel
      by_cases hlt : k < l.length
      · have hlt2 : k < m.length := by have := HQ.out; omega
        have BW1 := Lib.hid ((Below.refl wr.heap.size wr).alloc (Nat.le_refl _) (.cells (baC l[k]) 98))
        obtain ⟨b, o, rfl, hb, _, ld1, P1⟩ := (H1.out.below HB.out).ld k hlt
        obtain ⟨b2, o2, rfl, hb2, _, ld2, P2⟩ := ((H2.out.below HB.out).below BW1.out).ld k hlt2
        have HD := Lib.hid (show sameBs (l.drop k) (m.drop k) = (sameBt l[k].b m[k].b && sameBs (l.drop (k + 1)) (m.drop (k + 1))) from sameBy_step hlt hlt2)
        have PP1 := Lib.hid (P1.below BW1.out)
        have PP2 := Lib.hid P2
        clear P1 P2
        generalize l[k] = x at *
        generalize m[k] = y at *
        have BW2 := Lib.hid ((Below.refl (wr.alloc (.cells (baC x) 98)).heap.size (wr.alloc (.cells (baC x) 98))).alloc (Nat.le_refl _) (.cells (baC y) 98))
        have R1 := Lib.hid ((Row.new wr (baC x) 98).more (.cells (baC y) 98))
        have R2 := Row.new (wr.alloc (.cells (baC x) 98)) (baC y) 98
        rw [show (wr.alloc (.cells (baC x) 98)).heap.size = wr.heap.size + 1 by simp] at R2
        have st2 := st_banew (wr.alloc (.cells (baC x) 98)) y
        rw [show (wr.alloc (.cells (baC x) 98)).heap.size = wr.heap.size + 1 by simp] at st2
        have la := ld_ba R1.out
        have lb := ld_ba R2
        have CS := Lib.hid (btSame_any x.a y.a x.c y.c x.b y.b ((wr.alloc (.cells (baC x) 98)).alloc (.cells (baC y) 98)) (PP1.out.below BW2.out) (PP2.out.below BW2.out))
        have B2 := Lib.hid (HB.out.trans ((BW1.out.trans (BW2.out.mono BW1.out.size)).mono HB.out.size))
        clear R2
        go_wp2_with fail
        generalize (wr.alloc (.cells (baC x) 98)).alloc (.cells (baC y) 98) = W2 at *
        refine CS.out.mono ?_
        rintro e w3 ⟨rfl, b3⟩
        have B3 := Lib.hid (B2.out.trans (b3.mono B2.out.size))
        clear la lb b3 CS st2 ld1 ld2
        cases hx : sameBt x.b y.b with
        | false =>
          have HX := Lib.hid (show sameBs l m = false by rw [HF.out, HD.out, hx, Bool.false_and])
          go_wp2_with fail
          go_ret
          exact ⟨by rw [HX.out]; try rfl, B3.out⟩
        | true =>
          have HN := Lib.hid (show sameBs l m = sameBs (l.drop (k + 1)) (m.drop (k + 1)) by rw [HF.out, HD.out, hx, Bool.true_and])
          go_wp2_with fail
          go_roundw
          case rel => exact ⟨k + 1, by omega, by go_num, HN, B3⟩
          case measure => simp [intOf]; omega
      · have HX := Lib.hid (show sameBs l m = true by rw [HF.out, List.drop_eq_nil_of_le (by omega), List.drop_eq_nil_of_le (by have := HQ.out; omega)]; rfl)
        go_wp2_with fail
        go_ret
        exact ⟨by rw [HX.out]; try rfl, HB.out⟩
  · have hqi : ((l.length : Int) != (m.length : Int)) = true := by simp; omega
    have HX := Lib.hid (show sameBs l m = false from sameBy_len hq)
    clear hq
    go_enter Tryz.func101, Tryz.ntmps101
    go_wp2_with fail
    go_ret
    exact ⟨by rw [HX.out]; try rfl, Below.refl _ _⟩

/-- What package state's Same answers. -/
def SameC : Prop := ∀ (r s : StR) (w : World), StP w r → StP w s → Calls Tryz.prog 31 #[stV r, stV s] w (Tell (sameS r s) w)
theorem sameS_order (r s : StR) : sameS r s = (capsEq r.waves s.waves && (capsEq r.mans s.mans && ((r.limit == s.limit) && (sameI r.doors s.doors && ((r.now == s.now) && ((r.nb == s.nb) && ((r.nk == s.nk) && (sameOs r.ords s.ords && (sameBs r.bats s.bats && sameE r.effs s.effs))))))))) := by
  unfold sameS
  cases sameE r.effs s.effs <;> cases sameOs r.ords s.ords <;> cases sameBs r.bats s.bats <;> simp

set_option maxHeartbeats 16000000 in
theorem same_of : SameC := by
  intro r s w h hs
  have I := Lib.hid (TwI.begin w r s h hs)
  have HE := Lib.hid (sameS_order r s)
  generalize sameS r s = res at *
  have hdl := h.dlen
  have hds := hs.dlen
  have c := I.out.one.st
  obtain ⟨⟨c0, c1, c2, c3, c4, c5⟩, c6, c7, c8, c9, c10, c11⟩ := c
  have d := I.out.two.st
  obtain ⟨⟨d0, d1, d2, d3, d4, d5⟩, d6, d7, d8, d9, d10, d11⟩ := d
  have l1 := ld_caAt c0 c1
  have l2 := ld_caAt c2 c3
  have l3 := ld_caAt d0 d1
  have l4 := ld_caAt d2 d3
  clear h hs c0 c1 c2 c3 d0 d1 d2 d3
  go_enter Tryz.func31, Tryz.ntmps31
  cases k1 : capsEq r.waves s.waves with
  | false =>
    have HX := Lib.hid (show res = false by rw [HE.out]; simp only [k1, Bool.false_and])
    go_wp2_with fail
    go_ret
    exact ⟨by rw [HX.out]; try rfl, I.out.low⟩
  | true =>
    cases k2 : capsEq r.mans s.mans with
    | false =>
      have HX := Lib.hid (show res = false by rw [HE.out]; simp only [k1, k2, Bool.true_and, Bool.false_and])
      go_wp2_with fail
      go_ret
      exact ⟨by rw [HX.out]; try rfl, I.out.low⟩
    | true =>
      cases k3 : (r.limit == s.limit) with
      | false =>
        have HX := Lib.hid (show res = false by rw [HE.out]; simp only [k1, k2, k3, Bool.true_and, Bool.false_and])
        go_wp2_with fail
        go_ret
        exact ⟨by rw [HX.out]; try rfl, I.out.low⟩
      | true =>
        go_wp2_with fail
        generalize (w.alloc (.cells (stC r) 37)).alloc (.cells (stC s) 37) = W0 at *
        have C := Lib.hid (equalI_any r.da s.da r.dc s.dc r.doors s.doors W0 I.out.st.doors I.out.su.doors hdl hds)
        cases k4 : sameI r.doors s.doors with
        | false =>
          have HX := Lib.hid (show res = false by rw [HE.out]; simp only [k1, k2, k3, k4, Bool.true_and, Bool.false_and])
          rw [k4] at C
          refine C.out.mono ?_
          rintro e W4 ⟨rfl, b1⟩
          have J := Lib.hid (I.out.below b1)
          clear C
          clear l1 l2 l3 l4 c4 c5 c6 c7 c8 c9 c10 c11 d4 d5 d6 d7 d8 d9 d10 d11
          go_wp2_with fail
          go_ret
          exact ⟨by rw [HX.out]; try rfl, J.out.low⟩
        | true =>
          rw [k4] at C
          refine C.out.mono ?_
          rintro e W4 ⟨rfl, b1⟩
          have J := Lib.hid (I.out.below b1)
          clear C b1 I
          clear l1 l2 l3 l4 c4 c5 c6 c7 c8 c9 c10 c11 d4 d5 d6 d7 d8 d9 d10 d11
          have I := J
          clear J
          have c := I.out.one.st
          obtain ⟨⟨_, _, _, _, c4, c5⟩, c6, c7, c8, c9, c10, c11⟩ := c
          have d := I.out.two.st
          obtain ⟨⟨_, _, _, _, d4, d5⟩, d6, d7, d8, d9, d10, d11⟩ := d
          have l1 : True := trivial
          have l2 : True := trivial
          have l3 : True := trivial
          have l4 : True := trivial
          cases k5 : (r.now == s.now) with
          | false =>
            have HX := Lib.hid (show res = false by rw [HE.out]; simp only [k1, k2, k3, k4, k5, Bool.true_and, Bool.false_and])
            go_wp2_with fail
            go_ret
            exact ⟨by rw [HX.out]; try rfl, I.out.low⟩
          | true =>
            cases k6 : (r.nb == s.nb) with
            | false =>
              have HX := Lib.hid (show res = false by rw [HE.out]; simp only [k1, k2, k3, k4, k5, k6, Bool.true_and, Bool.false_and])
              go_wp2_with fail
              go_ret
              exact ⟨by rw [HX.out]; try rfl, I.out.low⟩
            | true =>
              cases k7 : (r.nk == s.nk) with
              | false =>
                have HX := Lib.hid (show res = false by rw [HE.out]; simp only [k1, k2, k3, k4, k5, k6, k7, Bool.true_and, Bool.false_and])
                go_wp2_with fail
                go_ret
                exact ⟨by rw [HX.out]; try rfl, I.out.low⟩
              | true =>
                go_wp2_with fail
                have C := Lib.hid (equalOs_any r.oa s.oa r.oc s.oc r.ords s.ords W4 I.out.st.ords I.out.su.ords)
                cases k8 : sameOs r.ords s.ords with
                | false =>
                  have HX := Lib.hid (show res = false by rw [HE.out]; simp only [k1, k2, k3, k4, k5, k6, k7, k8, Bool.true_and, Bool.false_and])
                  rw [k8] at C
                  refine C.out.mono ?_
                  rintro e W8 ⟨rfl, b1⟩
                  have J := Lib.hid (I.out.below b1)
                  clear C
                  clear l1 l2 l3 l4 c4 c5 c6 c7 c8 c9 c10 c11 d4 d5 d6 d7 d8 d9 d10 d11
                  go_wp2_with fail
                  go_ret
                  exact ⟨by rw [HX.out]; try rfl, J.out.low⟩
                | true =>
                  rw [k8] at C
                  refine C.out.mono ?_
                  rintro e W8 ⟨rfl, b1⟩
                  have J := Lib.hid (I.out.below b1)
                  clear C b1 I
                  clear l1 l2 l3 l4 c4 c5 c6 c7 c8 c9 c10 c11 d4 d5 d6 d7 d8 d9 d10 d11
                  have I := J
                  clear J
                  have c := I.out.one.st
                  obtain ⟨⟨_, _, _, _, c4, c5⟩, c6, c7, c8, c9, c10, c11⟩ := c
                  have d := I.out.two.st
                  obtain ⟨⟨_, _, _, _, d4, d5⟩, d6, d7, d8, d9, d10, d11⟩ := d
                  have l1 : True := trivial
                  have l2 : True := trivial
                  have l3 : True := trivial
                  have l4 : True := trivial
                  go_wp2_with fail
                  have C := Lib.hid (equalBs_any r.ba s.ba r.bc s.bc r.bats s.bats W8 I.out.st.bats I.out.su.bats)
                  cases k9 : sameBs r.bats s.bats with
                  | false =>
                    have HX := Lib.hid (show res = false by rw [HE.out]; simp only [k1, k2, k3, k4, k5, k6, k7, k8, k9, Bool.true_and, Bool.false_and])
                    rw [k9] at C
                    refine C.out.mono ?_
                    rintro e W9 ⟨rfl, b1⟩
                    have J := Lib.hid (I.out.below b1)
                    clear C
                    clear l1 l2 l3 l4 c4 c5 c6 c7 c8 c9 c10 c11 d4 d5 d6 d7 d8 d9 d10 d11
                    go_wp2_with fail
                    go_ret
                    exact ⟨by rw [HX.out]; try rfl, J.out.low⟩
                  | true =>
                    rw [k9] at C
                    refine C.out.mono ?_
                    rintro e W9 ⟨rfl, b1⟩
                    have J := Lib.hid (I.out.below b1)
                    clear C b1 I
                    clear l1 l2 l3 l4 c4 c5 c6 c7 c8 c9 c10 c11 d4 d5 d6 d7 d8 d9 d10 d11
                    have I := J
                    clear J
                    have c := I.out.one.st
                    obtain ⟨⟨_, _, _, _, c4, c5⟩, c6, c7, c8, c9, c10, c11⟩ := c
                    have d := I.out.two.st
                    obtain ⟨⟨_, _, _, _, d4, d5⟩, d6, d7, d8, d9, d10, d11⟩ := d
                    have l1 : True := trivial
                    have l2 : True := trivial
                    have l3 : True := trivial
                    have l4 : True := trivial
                    go_wp2_with fail
                    have C := Lib.hid (equalE_any r.ea s.ea r.ec s.ec r.effs s.effs W9 I.out.st.effs.sl I.out.su.effs.sl)
                    cases k10 : sameE r.effs s.effs with
                    | false =>
                      have HX := Lib.hid (show res = false by rw [HE.out]; simp only [k1, k2, k3, k4, k5, k6, k7, k8, k9, k10, Bool.true_and])
                      rw [k10] at C
                      refine C.out.mono ?_
                      rintro e W10 ⟨rfl, b1⟩
                      have J := Lib.hid (I.out.below b1)
                      clear C
                      clear l1 l2 l3 l4 c4 c5 c6 c7 c8 c9 c10 c11 d4 d5 d6 d7 d8 d9 d10 d11
                      go_wp2_with fail
                      go_ret
                      exact ⟨by rw [HX.out]; try rfl, J.out.low⟩
                    | true =>
                      have HX := Lib.hid (show res = true by rw [HE.out]; simp only [k1, k2, k3, k4, k5, k6, k7, k8, k9, k10, Bool.true_and])
                      rw [k10] at C
                      refine C.out.mono ?_
                      rintro e W10 ⟨rfl, b1⟩
                      have J := Lib.hid (I.out.below b1)
                      clear C
                      clear l1 l2 l3 l4 c4 c5 c6 c7 c8 c9 c10 c11 d4 d5 d6 d7 d8 d9 d10 d11
                      go_wp2_with fail
                      go_ret
                      exact ⟨by rw [HX.out]; try rfl, J.out.low⟩
end

/- StMine: Lists of a call's own, apart from each other; what package state's own answers of numbers, orders, batches and effects. -/
section
set_option maxRecDepth 100000
open Go.RowKit Go.ChangeShapes Go.WideShapes Go.ChangeAt
attribute [local go_sem ↓] ldOr stOr alOr bxOr bdOr ldBa stBa alBa bxBa bdBa ldSt stSt alSt bxSt bdSt ldEf stEf alEf bxEf eqEf bdEf bsEf ldGr bxGr eqGr ldCa bxCa eqCa
attribute [local go_sem] al_or bx_or st_ornew bd_or al_ba bx_ba st_banew bd_ba al_sta bx_sta st_stnew bd_sta al_ef bx_ef st_new bd_ef bs_ef bs_ef0 bx_gr ne_gr bx_ca ne_ca eq_caX eq_grX

theorem rowS_at {w : World} {base n m c len : Nat} {e : TypeId} {a : Option Addr} {cs : List Value} (h : w.ownsRow base e n (.slice a m c) len cs) : ∀ x, a = some x → base ≤ x.block ∧ x.block < w.heap.size := by
  intro x hx
  rcases h.2 with ⟨h1, _⟩ | ⟨g, cap, cur, hv, h1, h2, _⟩
  · injection h1 with h1
    rw [hx] at h1
    cases h1
  · injection hv with hv
    rw [hx] at hv
    injection hv with hv
    rw [hv]
    exact ⟨h1, (Array.getElem?_eq_some_iff.1 h2).1⟩
theorem row_else {w w' : World} {base n m c len : Nat} {e : TypeId} {a : Option Addr} {cs : List Value} (h : w.ownsRow base e n (.slice a m c) len cs) (hk : ∀ x, a = some x → w'.heap[x.block]? = w.heap[x.block]?) : w'.ownsRow base e n (.slice a m c) len cs := by
  refine ⟨h.1, ?_⟩
  rcases h.2 with h1 | ⟨g, cap, cur, hv, h1, h2, h3⟩
  · exact .inl h1
  · refine .inr ⟨g, cap, cur, hv, h1, ?_, h3⟩
    injection hv with hv
    exact (hk _ hv).trans h2
theorem mid_taken {α : Type} (c v : List α) (o n N : Nat) (hv : v.length = n) (h1 : o + n ≤ N) (h2 : N ≤ c.length) : (c.take o ++ v ++ c.drop (o + n)).take N = (c.take N).take o ++ v ++ (c.take N).drop (o + n) := by
  have ho : (c.take o).length = o := by rw [List.length_take]; omega
  have hov : (c.take o ++ v).length = o + n := by rw [List.length_append, ho, hv]
  rw [List.take_append, List.take_of_length_le (show (c.take o ++ v).length ≤ N by rw [hov]; exact h1), hov, List.take_take, Nat.min_eq_left (by omega), List.drop_take]
/-- One of a row is turned whole. -/
theorem OwnS.put {α : Type} {L : Lay α} {w : World} {base g m cap : Nat} {l : List α} (h : OwnS L w base (.slice (some ⟨g, 0, none⟩) m cap) l) (k : L.Ok) (j : Nat) (hj : j < l.length) (y : α) :
    OwnS L (w.setCells g (j * L.n) (L.enc y)) base (.slice (some ⟨g, 0, none⟩) m cap) (l.set j y) := by
  rcases h.2 with ⟨e, _⟩ | ⟨g', cap', cur, e, h1, h2, h3, h4, h5, h6⟩
  · cases e
  · injection e with e1 e2 e3
    injection e1 with e1
    injection e1 with e1
    subst e1 e2 e3
    have hle : (j + 1) * L.n ≤ l.length * L.n := Nat.mul_le_mul_right _ hj
    have hcp : l.length * L.n ≤ cap * L.n := Nat.mul_le_mul_right _ h3
    have hjn : (j + 1) * L.n = j * L.n + L.n := by rw [Nat.add_mul]; omega
    obtain ⟨cur', q1, q2⟩ := heap_setCells g L.T (0, 0) (L.enc y) (j * L.n) w cur h2 (by rw [k.len, h5]; omega)
    rw [k.len] at q2
    have hsz : cur'.size = cur.size := by
      rw [← Array.length_toList, q2, List.length_append, List.length_append, List.length_take, List.length_drop, k.len, Array.length_toList, h5]
      omega
    refine ⟨by rw [cellsG_len k], .inr ⟨g, cap, cur', by rw [List.length_set], h1, q1, by rw [List.length_set]; exact h3, h4, by rw [hsz]; exact h5, ?_⟩⟩
    have hcl : cur.toList.length = cap * L.n := by rw [Array.length_toList, h5]
    have hk := k.len y
    rw [List.length_set, ← cellsG_put k hj y, ← h6, q2]
    exact mid_taken cur.toList (L.enc y) (j * L.n) L.n (l.length * L.n) hk (by omega) (by omega)
theorem OwnS.store {α : Type} {L : Lay α} {w : World} {base g m cap : Nat} {l : List α} (h : OwnS L w base (.slice (some ⟨g, 0, none⟩) m cap) l) (k : L.Ok) (j : Nat) (hj : j < l.length) (y : α) :
    StX L.T (.pointer (some ⟨g, j * L.n, none⟩)) (.agg (L.enc y).toArray) w = .ok .skip (w.setCells g (j * L.n) (L.enc y)) := by
  obtain ⟨g', cap', e, _, _, _, _, hc, hf⟩ := h.at k j hj
  injection e with e1 _ _
  injection e1 with e1
  injection e1 with e1
  subst e1
  refine st_cells L.T (L.enc y) (fun i hi => ?_) (fun i _ => hf _) (k.one y) (fun W => by rw [k.len]; exact k.sz W)
  have hi2 : i < (L.enc l[j]).length := by rw [k.len]; rw [k.len] at hi; exact hi
  rw [hc i _ (List.getElem?_eq_getElem hi2)]
  rfl
/-- One of a row, whole and cell by cell. -/
theorem OwnS.ld {α : Type} {L : Lay α} {w : World} {base g m cap : Nat} {l : List α} (h : OwnS L w base (.slice (some ⟨g, 0, none⟩) m cap) l) (k : L.Ok) (j : Nat) (hj : j < l.length) :
    (∀ i u, (L.enc l[j])[i]? = some u → w.cell? ⟨g, j * L.n + i, none⟩ = some u) ∧ LdX L.T (.pointer (some ⟨g, j * L.n, none⟩)) w = .ok (.value (.agg (L.enc l[j]).toArray)) w ∧ (∀ o, w.frozen? ⟨g, o, none⟩ = false) ∧ base ≤ g ∧ g < w.heap.size := by
  obtain ⟨g', cap', e, h1, h2, _, _, hc, hf⟩ := h.at k j hj
  injection e with e1 _ _
  injection e1 with e1
  injection e1 with e1
  subst e1
  exact ⟨hc, ld_cells L.T (L.enc l[j]) hc k.agg (fun W => by rw [k.len]; exact k.sz W), hf, h1, h2⟩

end

/- StCopy: What package state's Copy answers: a state whose lists are the call's own. -/
section
set_option maxRecDepth 100000
open Go.RowKit Go.ChangeShapes Go.WideShapes Go.ChangeAt
attribute [local go_sem ↓] ldOr stOr alOr bxOr bdOr ldBa stBa alBa bxBa bdBa ldSt stSt alSt bxSt bdSt ldEf stEf alEf bxEf eqEf bdEf bsEf ldGr bxGr eqGr ldCa bxCa eqCa
attribute [local go_sem] al_or bx_or st_ornew bd_or al_ba bx_ba st_banew bd_ba al_sta bx_sta st_stnew bd_sta al_ef bx_ef st_new bd_ef bs_ef bs_ef0 bx_gr ne_gr bx_ca ne_ca eq_caX eq_grX

end

/- StCut: Cutting an effect out of a list: slices to a length and a room, from a place, and one put behind the other. -/
section
set_option maxRecDepth 100000
open Go.RowKit Go.ChangeShapes Go.WideShapes Go.ChangeAt
attribute [local go_sem ↓] ldOr stOr alOr bxOr bdOr ldBa stBa alBa bxBa bdBa ldSt stSt alSt bxSt bdSt ldEf stEf alEf bxEf eqEf bdEf bsEf ldGr bxGr eqGr ldCa bxCa eqCa
attribute [local go_sem] al_or bx_or st_ornew bd_or al_ba bx_ba st_banew bd_ba al_sta bx_sta st_stnew bd_sta al_ef bx_ef st_new bd_ef bs_ef bs_ef0 bx_gr ne_gr bx_ca ne_ca eq_caX eq_grX

end
end Go.Proofs.YtfmpibmhhfmajaaGreatDoor
