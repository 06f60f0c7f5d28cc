/- Package state: Same, Copy, and cutting. -/
import Derived.Test.YtaghbfnikcldiaaMgProg
import Derived.Test.YtaghbfnikcldiaaMgStates
import Derived.Test.YtaghbfnikcldiaaMgEffects
import Derived.Test.YtaghbfnikcldiaaMgBatches
import Derived.Test.YtaghbfnikcldiaaMgOrders
import Derived.Test.YtaghbfnikcldiaaDyOwn
import Derived.Test.YtaghbfnikcldiaaSl
import Derived.Deep.RegionLaw
import Derived.ArgAppend
namespace Go.Proofs.Ytaghbfnikcldiaa

/- StSameP: What package state's Same answers. -/
section
set_option maxRecDepth 100000
open Go.RowKit Go.ChangeShapes Go.WideShapes Go.ChangeAt
attribute [local go_sem ↓] ldOr stOr alOr bxOr bdOr ldBa stBa alBa bxBa bdBa ldSt stSt alSt bxSt bdSt ldEf stEf alEf bxEf eqEf bdEf bsEf ldGr bxGr eqGr ldCa bxCa eqCa
attribute [local go_sem] al_or bx_or st_ornew bd_or al_ba bx_ba st_banew bd_ba al_sta bx_sta st_stnew bd_sta al_ef bx_ef st_new bd_ef bs_ef bs_ef0 bx_gr ne_gr bx_ca ne_ca eq_caX eq_grX

set_option maxHeartbeats 2000000 in
theorem equalI_any (a1 a2 : Option Addr) (c1 c2 : Nat) (l m : List Int) (w : World) (h1 : IntsP w a1 c1 l) (h2 : IntsP w a2 c2 m) (hl : l.length ≤ maxLen) (_hm : m.length ≤ maxLen) :
    Calls Try.prog 43 #[.slice a1 l.length c1, .slice a2 m.length c2] w (Tell (sameI l m) w) := by
  have H1 := Lib.hid h1
  have H2 := Lib.hid h2
  have p1 := h1.cap
  have p2 := h2.cap
  unfold maxLen at hl
  clear h1 h2
  by_cases hq : l.length = m.length
  · have hqi : ((l.length : Int) != (m.length : Int)) = false := by simp; omega
    have HQ := Lib.hid hq
    clear hq
    go_enter Try.func43, Try.ntmps43
    go_wp2_with fail
    go_loopw [13] (fun i wr => ∃ (k : Nat), k ≤ l.length ∧ i = .int .i64 k ∧ Hid (sameI l m = sameI (l.drop k) (m.drop k)) ∧ Below w.heap.size w wr) (fun i _ => l.length - (intOf i).toNat)
    case atStart => exact ⟨0, Nat.zero_le _, rfl, Lib.hid rfl, Below.refl _ _⟩
    case round =>
      obtain ⟨k, hk, rfl, HF, hbw⟩ := hrel
      by_cases hlt : k < l.length
      · have hlt2 : k < m.length := by have := HQ.out; omega
        obtain ⟨b, o, rfl, hb, e1⟩ := (H1.out.below hbw).at k hlt
        obtain ⟨b2, o2, rfl, hb2, e2⟩ := (H2.out.below hbw).at k hlt2
        have HD := Lib.hid (show sameI (l.drop k) (m.drop k) = ((l[k] == m[k]) && sameI (l.drop (k + 1)) (m.drop (k + 1))) from sameBy_step hlt hlt2)
        generalize l[k] = x at *
        generalize m[k] = y at *
        have f1 : ∀ q : Far wr, (farOf wr q).cell? ⟨b, o + k, none⟩ = some (.int .i64 x) := far_cell hb e1
        have f2 : ∀ q : Far wr, (farOf wr q).cell? ⟨b2, o2 + k, none⟩ = some (.int .i64 y) := far_cell hb2 e2
        cases hx : (x == y) with
        | false =>
          have hxd : (x != y) = true := by simp only [bne, hx]; rfl
          have HX := Lib.hid (show sameI l m = false by rw [HF.out, HD.out, hx, Bool.false_and])
          go_wp2_with fail
          refine wp_region_far (by kernel_rfl) (by kernel_rfl) ?_
          repeat (first | go_big_quiet_step (fail) | quiet_step (fail))
          refine wpQuiet_nil ?_
          intro _ hw'
          obtain ⟨q, hw''⟩ := hw'
          subst hw''
          have hb5 := hbw.trans ((far_below wr q).mono hbw.size)
          go_wp2_with fail
          go_ret
          exact ⟨by rw [HX.out]; try rfl, hb5⟩
        | true =>
          have hxd : (x != y) = false := by simp only [bne, hx]; rfl
          have HN := Lib.hid (show sameI l m = sameI (l.drop (k + 1)) (m.drop (k + 1)) by rw [HF.out, HD.out, hx, Bool.true_and])
          go_wp2_with fail
          refine wp_region_far (by kernel_rfl) (by kernel_rfl) ?_
          repeat (first | go_big_quiet_step (fail) | quiet_step (fail))
          refine wpQuiet_nil ?_
          intro _ hw'
          obtain ⟨q, hw''⟩ := hw'
          subst hw''
          have hb5 := hbw.trans ((far_below wr q).mono hbw.size)
          go_wp2_with fail
          go_roundw
          case rel => exact ⟨k + 1, by omega, by go_num, HN, hb5⟩
          case measure => simp [intOf]; omega
      · have HX := Lib.hid (show sameI l m = true by rw [HF.out, List.drop_eq_nil_of_le (by omega), List.drop_eq_nil_of_le (by have := HQ.out; omega)]; rfl)
        go_wp2_with fail
        go_ret
        exact ⟨by rw [HX.out]; try rfl, hbw⟩
  · have hqi : ((l.length : Int) != (m.length : Int)) = true := by simp; omega
    have HX := Lib.hid (show sameI l m = false from sameBy_len hq)
    clear hq
    go_enter Try.func43, Try.ntmps43
    go_wp2_with fail
    go_ret
    exact ⟨by rw [HX.out]; try rfl, Below.refl _ _⟩


set_option maxHeartbeats 4000000 in
theorem equalE_any (a b : Option Addr) (ca cb : Nat) (l m : List Ef) (w : World) (h1 : SlP LE w a ca l) (h2 : SlP LE w b cb m) : Calls Try.prog 48 #[.slice a l.length ca, .slice b m.length cb] w (Tell (sameE l m) w) := by
  have H1 := Lib.hid h1
  have H2 := Lib.hid h2
  have k1 := h1.cap
  have k2 := h2.cap
  have hlm := h1.len
  have hlm2 := h2.len
  unfold maxLen at hlm hlm2
  clear h1 h2
  by_cases hl : l.length = m.length
  · have hq : ((l.length : Int) != (m.length : Int)) = false := by rw [hl]; simp
    go_enter Try.func48, Try.ntmps48
    go_wp2_with fail
    go_loopw [13] (fun i wr => ∃ k : Nat, k ≤ l.length ∧ i = .int .i64 k ∧ Hid (sameE l m = sameE (l.drop k) (m.drop k)) ∧ Below w.heap.size w wr) (fun i _ => l.length - (intOf i).toNat)
    case atStart => exact ⟨0, Nat.zero_le _, rfl, Lib.hid rfl, Below.refl _ _⟩
    case round =>
      obtain ⟨k, hk, rfl, HS, hbw⟩ := hrel
      by_cases hlt : k < l.length
      · have hlt2 : k < m.length := by omega
        obtain ⟨b1, o1, rfl, q1, ld1, _⟩ := (H1.out.below hbw).ef k hlt
        obtain ⟨b2, o2, rfl, q2, ld2, _⟩ := (H2.out.below hbw).ef k hlt2
        have ld1d : LdX 55 (.pointer (some ⟨b1, o1 + k * 6, none⟩)) wr.drew = .ok (.value (efV l[k])) wr.drew := ((H1.out.below hbw).below ((Below.refl _ _).drew)).ef k hlt |>.elim fun b' h => h.elim fun o' h => by
          obtain ⟨e, _, h, _⟩ := h
          injection e with e
          injection e with e1 e2
          subst e1 e2
          exact h
        have ld2d : LdX 55 (.pointer (some ⟨b2, o2 + k * 6, none⟩)) wr.drew = .ok (.value (efV m[k])) wr.drew := ((H2.out.below hbw).below ((Below.refl _ _).drew)).ef k hlt2 |>.elim fun b' h => h.elim fun o' h => by
          obtain ⟨e, _, h, _⟩ := h
          injection e with e
          injection e with e1 e2
          subst e1 e2
          exact h
        have HN := Lib.hid (HS.out.trans (sameE_step hlt hlt2))
        have ne := fun W a b => ne_ef W l[k] m[k] a b
        have B2 := Lib.hid hbw.drew
        generalize l[k] = x at *
        generalize m[k] = y at *
        generalize hE : eqB x y = E at *
        go_wp2_with fail
        go_region
        cases E with
        | false =>
          go_wp2_with fail
          go_ret
          exact ⟨by rw [HN.out]; rfl, B2.out⟩
        | true =>
          go_wp2_with fail
          go_roundw
          case rel => exact ⟨k + 1, hlt, by go_num, Lib.hid (by rw [HN.out, Bool.true_and]), B2.out⟩
          case measure => simp [intOf]; omega
      · have HE := Lib.hid (show sameE l m = true by rw [HS.out, List.drop_eq_nil_of_le (by omega), List.drop_eq_nil_of_le (by omega)]; rfl)
        go_wp2_with fail
        go_ret
        exact ⟨by rw [HE.out]; rfl, hbw⟩
  · have hq : ((l.length : Int) != (m.length : Int)) = true := by simp; omega
    have HE := Lib.hid (sameE_len hl)
    go_enter Try.func48, Try.ntmps48
    go_wp2_with fail
    go_ret
    exact ⟨by rw [HE.out]; rfl, Below.refl _ _⟩


set_option maxHeartbeats 8000000 in
theorem equalOs_any (a1 a2 : Option Addr) (c1 c2 : Nat) (l m : List OdR) (w : World) (h1 : OrsP w a1 c1 l) (h2 : OrsP w a2 c2 m) :
    Calls Try.prog 44 #[.slice a1 l.length c1, .slice a2 m.length c2, .func (.func 45) #[] #[]] w (Tell (sameOs l m) w) := by
  have H1 := Lib.hid h1
  have H2 := Lib.hid h2
  have p1 := h1.sl.cap
  have p2 := h2.sl.cap
  have hl := h1.sl.len
  unfold maxLen at hl
  clear h1 h2
  by_cases hq : l.length = m.length
  · have hqi : ((l.length : Int) != (m.length : Int)) = false := by simp; omega
    have HQ := Lib.hid hq
    clear hq
    go_enter Try.func44, Try.ntmps44
    go_wp2_with fail
    go_loopw [17] (fun i wr => ∃ (k : Nat), k ≤ l.length ∧ i = .int .i64 k ∧ Hid (sameOs l m = sameOs (l.drop k) (m.drop k)) ∧ Hid (Below w.heap.size w wr)) (fun i _ => l.length - (intOf i).toNat)
    case atStart => exact ⟨0, Nat.zero_le _, rfl, Lib.hid rfl, Lib.hid (Below.refl _ _)⟩
    case round =>
      obtain ⟨k, hk, rfl, HF, HB⟩ := hrel
      by_cases hlt : k < l.length
      · have hlt2 : k < m.length := by have := HQ.out; omega
        have BW1 := Lib.hid ((Below.refl wr.heap.size wr).alloc (Nat.le_refl _) (.cells (orC l[k]) 48))
        obtain ⟨b, o, rfl, hb, _, ld1, P1⟩ := (H1.out.below HB.out).ld k hlt
        obtain ⟨b2, o2, rfl, hb2, _, ld2, P2⟩ := ((H2.out.below HB.out).below BW1.out).ld k hlt2
        have HD := Lib.hid (show sameOs (l.drop k) (m.drop k) = (sameO l[k].o m[k].o && sameOs (l.drop (k + 1)) (m.drop (k + 1))) from sameBy_step hlt hlt2)
        have PP1 := Lib.hid (P1.below BW1.out)
        have PP2 := Lib.hid P2
        clear P1 P2
        generalize l[k] = x at *
        generalize m[k] = y at *
        have BW2 := Lib.hid ((Below.refl (wr.alloc (.cells (orC x) 48)).heap.size (wr.alloc (.cells (orC x) 48))).alloc (Nat.le_refl _) (.cells (orC y) 48))
        have R1 := Lib.hid ((Row.new wr (orC x) 48).more (.cells (orC y) 48))
        have R2 := Row.new (wr.alloc (.cells (orC x) 48)) (orC y) 48
        rw [show (wr.alloc (.cells (orC x) 48)).heap.size = wr.heap.size + 1 by simp] at R2
        have st2 := st_ornew (wr.alloc (.cells (orC x) 48)) y
        rw [show (wr.alloc (.cells (orC x) 48)).heap.size = wr.heap.size + 1 by simp] at st2
        have la := ld_or R1.out
        have lb := ld_or R2
        have CS := Lib.hid (oSame_any x.a y.a x.c y.c x.o y.o ((wr.alloc (.cells (orC x) 48)).alloc (.cells (orC y) 48)) (PP1.out.below BW2.out) (PP2.out.below BW2.out))
        have B2 := Lib.hid (HB.out.trans ((BW1.out.trans (BW2.out.mono BW1.out.size)).mono HB.out.size))
        clear R2
        go_wp2_with fail
        generalize (wr.alloc (.cells (orC x) 48)).alloc (.cells (orC y) 48) = W2 at *
        refine CS.out.mono ?_
        rintro e w3 ⟨rfl, b3⟩
        have B3 := Lib.hid (B2.out.trans (b3.mono B2.out.size))
        clear la lb b3 CS st2 ld1 ld2
        cases hx : sameO x.o y.o with
        | false =>
          have HX := Lib.hid (show sameOs l m = false by rw [HF.out, HD.out, hx, Bool.false_and])
          go_wp2_with fail
          go_ret
          exact ⟨by rw [HX.out]; try rfl, B3.out⟩
        | true =>
          have HN := Lib.hid (show sameOs l m = sameOs (l.drop (k + 1)) (m.drop (k + 1)) by rw [HF.out, HD.out, hx, Bool.true_and])
          go_wp2_with fail
          go_roundw
          case rel => exact ⟨k + 1, by omega, by go_num, HN, B3⟩
          case measure => simp [intOf]; omega
      · have HX := Lib.hid (show sameOs l m = true by rw [HF.out, List.drop_eq_nil_of_le (by omega), List.drop_eq_nil_of_le (by have := HQ.out; omega)]; rfl)
        go_wp2_with fail
        go_ret
        exact ⟨by rw [HX.out]; try rfl, HB.out⟩
  · have hqi : ((l.length : Int) != (m.length : Int)) = true := by simp; omega
    have HX := Lib.hid (show sameOs l m = false from sameBy_len hq)
    clear hq
    go_enter Try.func44, Try.ntmps44
    go_wp2_with fail
    go_ret
    exact ⟨by rw [HX.out]; try rfl, Below.refl _ _⟩

set_option maxHeartbeats 8000000 in
theorem equalBs_any (a1 a2 : Option Addr) (c1 c2 : Nat) (l m : List BtR) (w : World) (h1 : BasP w a1 c1 l) (h2 : BasP w a2 c2 m) :
    Calls Try.prog 46 #[.slice a1 l.length c1, .slice a2 m.length c2, .func (.func 47) #[] #[]] w (Tell (sameBs l m) w) := by
  have H1 := Lib.hid h1
  have H2 := Lib.hid h2
  have p1 := h1.sl.cap
  have p2 := h2.sl.cap
  have hl := h1.sl.len
  unfold maxLen at hl
  clear h1 h2
  by_cases hq : l.length = m.length
  · have hqi : ((l.length : Int) != (m.length : Int)) = false := by simp; omega
    have HQ := Lib.hid hq
    clear hq
    go_enter Try.func46, Try.ntmps46
    go_wp2_with fail
    go_loopw [17] (fun i wr => ∃ (k : Nat), k ≤ l.length ∧ i = .int .i64 k ∧ Hid (sameBs l m = sameBs (l.drop k) (m.drop k)) ∧ Hid (Below w.heap.size w wr)) (fun i _ => l.length - (intOf i).toNat)
    case atStart => exact ⟨0, Nat.zero_le _, rfl, Lib.hid rfl, Lib.hid (Below.refl _ _)⟩
    case round =>
      obtain ⟨k, hk, rfl, HF, HB⟩ := hrel
      by_cases hlt : k < l.length
      · have hlt2 : k < m.length := by have := HQ.out; omega
        have BW1 := Lib.hid ((Below.refl wr.heap.size wr).alloc (Nat.le_refl _) (.cells (baC l[k]) 53))
        obtain ⟨b, o, rfl, hb, _, ld1, P1⟩ := (H1.out.below HB.out).ld k hlt
        obtain ⟨b2, o2, rfl, hb2, _, ld2, P2⟩ := ((H2.out.below HB.out).below BW1.out).ld k hlt2
        have HD := Lib.hid (show sameBs (l.drop k) (m.drop k) = (sameBt l[k].b m[k].b && sameBs (l.drop (k + 1)) (m.drop (k + 1))) from sameBy_step hlt hlt2)
        have PP1 := Lib.hid (P1.below BW1.out)
        have PP2 := Lib.hid P2
        clear P1 P2
        generalize l[k] = x at *
        generalize m[k] = y at *
        have BW2 := Lib.hid ((Below.refl (wr.alloc (.cells (baC x) 53)).heap.size (wr.alloc (.cells (baC x) 53))).alloc (Nat.le_refl _) (.cells (baC y) 53))
        have R1 := Lib.hid ((Row.new wr (baC x) 53).more (.cells (baC y) 53))
        have R2 := Row.new (wr.alloc (.cells (baC x) 53)) (baC y) 53
        rw [show (wr.alloc (.cells (baC x) 53)).heap.size = wr.heap.size + 1 by simp] at R2
        have st2 := st_banew (wr.alloc (.cells (baC x) 53)) y
        rw [show (wr.alloc (.cells (baC x) 53)).heap.size = wr.heap.size + 1 by simp] at st2
        have la := ld_ba R1.out
        have lb := ld_ba R2
        have CS := Lib.hid (btSame_any x.a y.a x.c y.c x.b y.b ((wr.alloc (.cells (baC x) 53)).alloc (.cells (baC y) 53)) (PP1.out.below BW2.out) (PP2.out.below BW2.out))
        have B2 := Lib.hid (HB.out.trans ((BW1.out.trans (BW2.out.mono BW1.out.size)).mono HB.out.size))
        clear R2
        go_wp2_with fail
        generalize (wr.alloc (.cells (baC x) 53)).alloc (.cells (baC y) 53) = W2 at *
        refine CS.out.mono ?_
        rintro e w3 ⟨rfl, b3⟩
        have B3 := Lib.hid (B2.out.trans (b3.mono B2.out.size))
        clear la lb b3 CS st2 ld1 ld2
        cases hx : sameBt x.b y.b with
        | false =>
          have HX := Lib.hid (show sameBs l m = false by rw [HF.out, HD.out, hx, Bool.false_and])
          go_wp2_with fail
          go_ret
          exact ⟨by rw [HX.out]; try rfl, B3.out⟩
        | true =>
          have HN := Lib.hid (show sameBs l m = sameBs (l.drop (k + 1)) (m.drop (k + 1)) by rw [HF.out, HD.out, hx, Bool.true_and])
          go_wp2_with fail
          go_roundw
          case rel => exact ⟨k + 1, by omega, by go_num, HN, B3⟩
          case measure => simp [intOf]; omega
      · have HX := Lib.hid (show sameBs l m = true by rw [HF.out, List.drop_eq_nil_of_le (by omega), List.drop_eq_nil_of_le (by have := HQ.out; omega)]; rfl)
        go_wp2_with fail
        go_ret
        exact ⟨by rw [HX.out]; try rfl, HB.out⟩
  · have hqi : ((l.length : Int) != (m.length : Int)) = true := by simp; omega
    have HX := Lib.hid (show sameBs l m = false from sameBy_len hq)
    clear hq
    go_enter Try.func46, Try.ntmps46
    go_wp2_with fail
    go_ret
    exact ⟨by rw [HX.out]; try rfl, Below.refl _ _⟩

/-- What package state's Same answers. -/
def SameC : Prop := ∀ (r s : StR) (w : World), StP w r → StP w s → Calls Try.prog 16 #[stV r, stV s] w (Tell (sameS r s) w)
theorem sameS_order (r s : StR) : sameS r s = (capsEq r.waves s.waves && (capsEq r.mans s.mans && ((r.limit == s.limit) && (sameI r.doors s.doors && ((r.now == s.now) && ((r.nb == s.nb) && ((r.nk == s.nk) && (sameOs r.ords s.ords && (sameBs r.bats s.bats && sameE r.effs s.effs))))))))) := by
  unfold sameS
  cases sameE r.effs s.effs <;> cases sameOs r.ords s.ords <;> cases sameBs r.bats s.bats <;> simp

set_option maxHeartbeats 16000000 in
theorem same_of : SameC := by
  intro r s w h hs
  have I := Lib.hid (TwI.begin w r s h hs)
  have HE := Lib.hid (sameS_order r s)
  generalize sameS r s = res at *
  have hdl := h.dlen
  have hds := hs.dlen
  have c := I.out.one.st
  obtain ⟨⟨c0, c1, c2, c3, c4, c5⟩, c6, c7, c8, c9, c10, c11⟩ := c
  have d := I.out.two.st
  obtain ⟨⟨d0, d1, d2, d3, d4, d5⟩, d6, d7, d8, d9, d10, d11⟩ := d
  have l1 := ld_caAt c0 c1
  have l2 := ld_caAt c2 c3
  have l3 := ld_caAt d0 d1
  have l4 := ld_caAt d2 d3
  clear h hs c0 c1 c2 c3 d0 d1 d2 d3
  go_enter Try.func16, Try.ntmps16
  cases k1 : capsEq r.waves s.waves with
  | false =>
    have HX := Lib.hid (show res = false by rw [HE.out]; simp only [k1, Bool.false_and])
    go_wp2_with fail
    go_ret
    exact ⟨by rw [HX.out]; try rfl, I.out.low⟩
  | true =>
    cases k2 : capsEq r.mans s.mans with
    | false =>
      have HX := Lib.hid (show res = false by rw [HE.out]; simp only [k1, k2, Bool.true_and, Bool.false_and])
      go_wp2_with fail
      go_ret
      exact ⟨by rw [HX.out]; try rfl, I.out.low⟩
    | true =>
      cases k3 : (r.limit == s.limit) with
      | false =>
        have HX := Lib.hid (show res = false by rw [HE.out]; simp only [k1, k2, k3, Bool.true_and, Bool.false_and])
        go_wp2_with fail
        go_ret
        exact ⟨by rw [HX.out]; try rfl, I.out.low⟩
      | true =>
        go_wp2_with fail
        generalize (w.alloc (.cells (stC r) 29)).alloc (.cells (stC s) 29) = W0 at *
        have C := Lib.hid (equalI_any r.da s.da r.dc s.dc r.doors s.doors W0 I.out.st.doors I.out.su.doors hdl hds)
        cases k4 : sameI r.doors s.doors with
        | false =>
          have HX := Lib.hid (show res = false by rw [HE.out]; simp only [k1, k2, k3, k4, Bool.true_and, Bool.false_and])
          rw [k4] at C
          refine C.out.mono ?_
          rintro e W4 ⟨rfl, b1⟩
          have J := Lib.hid (I.out.below b1)
          clear C
          clear l1 l2 l3 l4 c4 c5 c6 c7 c8 c9 c10 c11 d4 d5 d6 d7 d8 d9 d10 d11
          go_wp2_with fail
          go_ret
          exact ⟨by rw [HX.out]; try rfl, J.out.low⟩
        | true =>
          rw [k4] at C
          refine C.out.mono ?_
          rintro e W4 ⟨rfl, b1⟩
          have J := Lib.hid (I.out.below b1)
          clear C b1 I
          clear l1 l2 l3 l4 c4 c5 c6 c7 c8 c9 c10 c11 d4 d5 d6 d7 d8 d9 d10 d11
          have I := J
          clear J
          have c := I.out.one.st
          obtain ⟨⟨_, _, _, _, c4, c5⟩, c6, c7, c8, c9, c10, c11⟩ := c
          have d := I.out.two.st
          obtain ⟨⟨_, _, _, _, d4, d5⟩, d6, d7, d8, d9, d10, d11⟩ := d
          have l1 : True := trivial
          have l2 : True := trivial
          have l3 : True := trivial
          have l4 : True := trivial
          cases k5 : (r.now == s.now) with
          | false =>
            have HX := Lib.hid (show res = false by rw [HE.out]; simp only [k1, k2, k3, k4, k5, Bool.true_and, Bool.false_and])
            go_wp2_with fail
            go_ret
            exact ⟨by rw [HX.out]; try rfl, I.out.low⟩
          | true =>
            cases k6 : (r.nb == s.nb) with
            | false =>
              have HX := Lib.hid (show res = false by rw [HE.out]; simp only [k1, k2, k3, k4, k5, k6, Bool.true_and, Bool.false_and])
              go_wp2_with fail
              go_ret
              exact ⟨by rw [HX.out]; try rfl, I.out.low⟩
            | true =>
              cases k7 : (r.nk == s.nk) with
              | false =>
                have HX := Lib.hid (show res = false by rw [HE.out]; simp only [k1, k2, k3, k4, k5, k6, k7, Bool.true_and, Bool.false_and])
                go_wp2_with fail
                go_ret
                exact ⟨by rw [HX.out]; try rfl, I.out.low⟩
              | true =>
                go_wp2_with fail
                have C := Lib.hid (equalOs_any r.oa s.oa r.oc s.oc r.ords s.ords W4 I.out.st.ords I.out.su.ords)
                cases k8 : sameOs r.ords s.ords with
                | false =>
                  have HX := Lib.hid (show res = false by rw [HE.out]; simp only [k1, k2, k3, k4, k5, k6, k7, k8, Bool.true_and, Bool.false_and])
                  rw [k8] at C
                  refine C.out.mono ?_
                  rintro e W8 ⟨rfl, b1⟩
                  have J := Lib.hid (I.out.below b1)
                  clear C
                  clear l1 l2 l3 l4 c4 c5 c6 c7 c8 c9 c10 c11 d4 d5 d6 d7 d8 d9 d10 d11
                  go_wp2_with fail
                  go_ret
                  exact ⟨by rw [HX.out]; try rfl, J.out.low⟩
                | true =>
                  rw [k8] at C
                  refine C.out.mono ?_
                  rintro e W8 ⟨rfl, b1⟩
                  have J := Lib.hid (I.out.below b1)
                  clear C b1 I
                  clear l1 l2 l3 l4 c4 c5 c6 c7 c8 c9 c10 c11 d4 d5 d6 d7 d8 d9 d10 d11
                  have I := J
                  clear J
                  have c := I.out.one.st
                  obtain ⟨⟨_, _, _, _, c4, c5⟩, c6, c7, c8, c9, c10, c11⟩ := c
                  have d := I.out.two.st
                  obtain ⟨⟨_, _, _, _, d4, d5⟩, d6, d7, d8, d9, d10, d11⟩ := d
                  have l1 : True := trivial
                  have l2 : True := trivial
                  have l3 : True := trivial
                  have l4 : True := trivial
                  go_wp2_with fail
                  have C := Lib.hid (equalBs_any r.ba s.ba r.bc s.bc r.bats s.bats W8 I.out.st.bats I.out.su.bats)
                  cases k9 : sameBs r.bats s.bats with
                  | false =>
                    have HX := Lib.hid (show res = false by rw [HE.out]; simp only [k1, k2, k3, k4, k5, k6, k7, k8, k9, Bool.true_and, Bool.false_and])
                    rw [k9] at C
                    refine C.out.mono ?_
                    rintro e W9 ⟨rfl, b1⟩
                    have J := Lib.hid (I.out.below b1)
                    clear C
                    clear l1 l2 l3 l4 c4 c5 c6 c7 c8 c9 c10 c11 d4 d5 d6 d7 d8 d9 d10 d11
                    go_wp2_with fail
                    go_ret
                    exact ⟨by rw [HX.out]; try rfl, J.out.low⟩
                  | true =>
                    rw [k9] at C
                    refine C.out.mono ?_
                    rintro e W9 ⟨rfl, b1⟩
                    have J := Lib.hid (I.out.below b1)
                    clear C b1 I
                    clear l1 l2 l3 l4 c4 c5 c6 c7 c8 c9 c10 c11 d4 d5 d6 d7 d8 d9 d10 d11
                    have I := J
                    clear J
                    have c := I.out.one.st
                    obtain ⟨⟨_, _, _, _, c4, c5⟩, c6, c7, c8, c9, c10, c11⟩ := c
                    have d := I.out.two.st
                    obtain ⟨⟨_, _, _, _, d4, d5⟩, d6, d7, d8, d9, d10, d11⟩ := d
                    have l1 : True := trivial
                    have l2 : True := trivial
                    have l3 : True := trivial
                    have l4 : True := trivial
                    go_wp2_with fail
                    have C := Lib.hid (equalE_any r.ea s.ea r.ec s.ec r.effs s.effs W9 I.out.st.effs.sl I.out.su.effs.sl)
                    cases k10 : sameE r.effs s.effs with
                    | false =>
                      have HX := Lib.hid (show res = false by rw [HE.out]; simp only [k1, k2, k3, k4, k5, k6, k7, k8, k9, k10, Bool.true_and])
                      rw [k10] at C
                      refine C.out.mono ?_
                      rintro e W10 ⟨rfl, b1⟩
                      have J := Lib.hid (I.out.below b1)
                      clear C
                      clear l1 l2 l3 l4 c4 c5 c6 c7 c8 c9 c10 c11 d4 d5 d6 d7 d8 d9 d10 d11
                      go_wp2_with fail
                      go_ret
                      exact ⟨by rw [HX.out]; try rfl, J.out.low⟩
                    | true =>
                      have HX := Lib.hid (show res = true by rw [HE.out]; simp only [k1, k2, k3, k4, k5, k6, k7, k8, k9, k10, Bool.true_and])
                      rw [k10] at C
                      refine C.out.mono ?_
                      rintro e W10 ⟨rfl, b1⟩
                      have J := Lib.hid (I.out.below b1)
                      clear C
                      clear l1 l2 l3 l4 c4 c5 c6 c7 c8 c9 c10 c11 d4 d5 d6 d7 d8 d9 d10 d11
                      go_wp2_with fail
                      go_ret
                      exact ⟨by rw [HX.out]; try rfl, J.out.low⟩
end

/- StMine: Lists of a call's own, apart from each other; what package state's own answers of numbers, orders, batches and effects. -/
section
set_option maxRecDepth 100000
open Go.RowKit Go.ChangeShapes Go.WideShapes Go.ChangeAt
attribute [local go_sem ↓] ldOr stOr alOr bxOr bdOr ldBa stBa alBa bxBa bdBa ldSt stSt alSt bxSt bdSt ldEf stEf alEf bxEf eqEf bdEf bsEf ldGr bxGr eqGr ldCa bxCa eqCa
attribute [local go_sem] al_or bx_or st_ornew bd_or al_ba bx_ba st_banew bd_ba al_sta bx_sta st_stnew bd_sta al_ef bx_ef st_new bd_ef bs_ef bs_ef0 bx_gr ne_gr bx_ca ne_ca eq_caX eq_grX

theorem rowS_at {w : World} {base n m c len : Nat} {e : TypeId} {a : Option Addr} {cs : List Value} (h : w.ownsRow base e n (.slice a m c) len cs) : ∀ x, a = some x → base ≤ x.block ∧ x.block < w.heap.size := by
  intro x hx
  rcases h.2 with ⟨h1, _⟩ | ⟨g, cap, cur, hv, h1, h2, _⟩
  · injection h1 with h1
    rw [hx] at h1
    cases h1
  · injection hv with hv
    rw [hx] at hv
    injection hv with hv
    rw [hv]
    exact ⟨h1, (Array.getElem?_eq_some_iff.1 h2).1⟩
theorem row_else {w w' : World} {base n m c len : Nat} {e : TypeId} {a : Option Addr} {cs : List Value} (h : w.ownsRow base e n (.slice a m c) len cs) (hk : ∀ x, a = some x → w'.heap[x.block]? = w.heap[x.block]?) : w'.ownsRow base e n (.slice a m c) len cs := by
  refine ⟨h.1, ?_⟩
  rcases h.2 with h1 | ⟨g, cap, cur, hv, h1, h2, h3⟩
  · exact .inl h1
  · refine .inr ⟨g, cap, cur, hv, h1, ?_, h3⟩
    injection hv with hv
    exact (hk _ hv).trans h2
theorem row_low {w : World} {base base' n len : Nat} {e : TypeId} {v : Value} {cs : List Value} (h : w.ownsRow base e n v len cs) (hb : base' ≤ base) : w.ownsRow base' e n v len cs :=
  ⟨h.1, h.2.elim Or.inl (fun ⟨g, cap, cur, hv, hg, r⟩ => Or.inr ⟨g, cap, cur, hv, Nat.le_trans hb hg, r⟩)⟩
theorem setCells_else (g k : Nat) (h : k ≠ g) : ∀ (vs : List Value) (o : Nat) (w : World), (w.setCells g o vs).heap[k]? = w.heap[k]?
  | [], _, _ => rfl
  | v :: r, o, w => (setCells_else g k h r (o + 1) _).trans (setCell_else w o v h)
theorem setCells_size (g : Nat) : ∀ (vs : List Value) (o : Nat) (w : World), (w.setCells g o vs).heap.size = w.heap.size
  | [], _, _ => rfl
  | v :: r, o, w => (setCells_size g r (o + 1) _).trans (by simp [World.setCell])
theorem mid_taken {α : Type} (c v : List α) (o n N : Nat) (hv : v.length = n) (h1 : o + n ≤ N) (h2 : N ≤ c.length) : (c.take o ++ v ++ c.drop (o + n)).take N = (c.take N).take o ++ v ++ (c.take N).drop (o + n) := by
  have ho : (c.take o).length = o := by rw [List.length_take]; omega
  have hov : (c.take o ++ v).length = o + n := by rw [List.length_append, ho, hv]
  rw [List.take_append, List.take_of_length_le (show (c.take o ++ v).length ≤ N by rw [hov]; exact h1), hov, List.take_take, Nat.min_eq_left (by omega), List.drop_take]
/-- One of a row is turned whole. -/
theorem OwnS.put {α : Type} {L : Lay α} {w : World} {base g m cap : Nat} {l : List α} (h : OwnS L w base (.slice (some ⟨g, 0, none⟩) m cap) l) (k : L.Ok) (j : Nat) (hj : j < l.length) (y : α) :
    OwnS L (w.setCells g (j * L.n) (L.enc y)) base (.slice (some ⟨g, 0, none⟩) m cap) (l.set j y) := by
  rcases h.2 with ⟨e, _⟩ | ⟨g', cap', cur, e, h1, h2, h3, h4, h5, h6⟩
  · cases e
  · injection e with e1 e2 e3
    injection e1 with e1
    injection e1 with e1
    subst e1 e2 e3
    have hle : (j + 1) * L.n ≤ l.length * L.n := Nat.mul_le_mul_right _ hj
    have hcp : l.length * L.n ≤ cap * L.n := Nat.mul_le_mul_right _ h3
    have hjn : (j + 1) * L.n = j * L.n + L.n := by rw [Nat.add_mul]; omega
    obtain ⟨cur', q1, q2⟩ := heap_setCells g L.T (0, 0) (L.enc y) (j * L.n) w cur h2 (by rw [k.len, h5]; omega)
    rw [k.len] at q2
    have hsz : cur'.size = cur.size := by
      rw [← Array.length_toList, q2, List.length_append, List.length_append, List.length_take, List.length_drop, k.len, Array.length_toList, h5]
      omega
    refine ⟨by rw [cellsG_len k], .inr ⟨g, cap, cur', by rw [List.length_set], h1, q1, by rw [List.length_set]; exact h3, h4, by rw [hsz]; exact h5, ?_⟩⟩
    have hcl : cur.toList.length = cap * L.n := by rw [Array.length_toList, h5]
    have hk := k.len y
    rw [List.length_set, ← cellsG_put k hj y, ← h6, q2]
    exact mid_taken cur.toList (L.enc y) (j * L.n) L.n (l.length * L.n) hk (by omega) (by omega)
theorem OwnS.store {α : Type} {L : Lay α} {w : World} {base g m cap : Nat} {l : List α} (h : OwnS L w base (.slice (some ⟨g, 0, none⟩) m cap) l) (k : L.Ok) (j : Nat) (hj : j < l.length) (y : α) :
    StX L.T (.pointer (some ⟨g, j * L.n, none⟩)) (.agg (L.enc y).toArray) w = .ok .skip (w.setCells g (j * L.n) (L.enc y)) := by
  obtain ⟨g', cap', e, _, _, _, _, hc, hf⟩ := h.at k j hj
  injection e with e1 _ _
  injection e1 with e1
  injection e1 with e1
  subst e1
  refine st_cells L.T (L.enc y) (fun i hi => ?_) (fun i _ => hf _) (k.one y) (fun W => by rw [k.len]; exact k.sz W)
  have hi2 : i < (L.enc l[j]).length := by rw [k.len]; rw [k.len] at hi; exact hi
  rw [hc i _ (List.getElem?_eq_getElem hi2)]
  rfl
/-- One of a row, whole and cell by cell. -/
theorem OwnS.ld {α : Type} {L : Lay α} {w : World} {base g m cap : Nat} {l : List α} (h : OwnS L w base (.slice (some ⟨g, 0, none⟩) m cap) l) (k : L.Ok) (j : Nat) (hj : j < l.length) :
    (∀ i u, (L.enc l[j])[i]? = some u → w.cell? ⟨g, j * L.n + i, none⟩ = some u) ∧ LdX L.T (.pointer (some ⟨g, j * L.n, none⟩)) w = .ok (.value (.agg (L.enc l[j]).toArray)) w ∧ (∀ o, w.frozen? ⟨g, o, none⟩ = false) ∧ base ≤ g ∧ g < w.heap.size := by
  obtain ⟨g', cap', e, h1, h2, _, _, hc, hf⟩ := h.at k j hj
  injection e with e1 _ _
  injection e1 with e1
  injection e1 with e1
  subst e1
  exact ⟨hc, ld_cells L.T (L.enc l[j]) hc k.agg (fun W => by rw [k.len]; exact k.sz W), hf, h1, h2⟩

/-- Where lists lie: apart from each other, between two blocks. -/
structure Mine (l : List (Option Addr)) (base top : Nat) : Prop where
  ge : ∀ x, some x ∈ l → base ≤ x.block
  lt : ∀ x, some x ∈ l → x.block < top
  pw : l.Pairwise (fun a b => ∀ x y, a = some x → b = some y → x.block ≠ y.block)
theorem Mine.nil (base top : Nat) : Mine [] base top := ⟨by simp, by simp, List.Pairwise.nil⟩
theorem Mine.mono {l : List (Option Addr)} {base base' top top' : Nat} (h : Mine l base top) (hb : base' ≤ base) (ht : top ≤ top') : Mine l base' top' :=
  ⟨fun x hx => Nat.le_trans hb (h.ge x hx), fun x hx => Nat.lt_of_lt_of_le (h.lt x hx) ht, h.pw⟩
theorem Mine.push {l : List (Option Addr)} {base top top' : Nat} (h : Mine l base top) {a : Option Addr} (hb : base ≤ top) (ht : top ≤ top') (ha : ∀ x, a = some x → top ≤ x.block ∧ x.block < top') : Mine (l ++ [a]) base top' := by
  refine ⟨fun x hx => ?_, fun x hx => ?_, ?_⟩
  · rcases List.mem_append.1 hx with hx | hx
    · exact h.ge x hx
    · exact Nat.le_trans hb (ha x (List.mem_singleton.1 hx).symm).1
  · rcases List.mem_append.1 hx with hx | hx
    · exact Nat.lt_of_lt_of_le (h.lt x hx) ht
    · exact (ha x (List.mem_singleton.1 hx).symm).2
  · rw [List.pairwise_append]
    refine ⟨h.pw, by simp, fun b hb2 c hc x y e1 e2 => ?_⟩
    rw [List.mem_singleton.1 hc] at e2
    have h1 := h.lt x (e1 ▸ hb2)
    have h2 := (ha y e2).1
    omega

/-- Numbers that came in, put behind nothing. -/
theorem run_append_ints (w : World) (ys : List Int) (A : Option Addr) (cA : Nat) (hy : IntsP w A cA ys) (hlen : ys.length ≤ 1000000) (ty : TypeId) :
    ∃ v' w', (Builtin.append_ #[24, 24] ty #[.slice none 0 0, .slice A ys.length cA]).run Try.prog w = .ok v' w' ∧ OwnI w' w.heap.size v' ys ∧ w.grownBy w' none := by
  obtain ⟨i0, hi0, hz0, hzs, hzb⟩ := info_parts Try.info3
  cases A with
  | none =>
    have hy0 : ys = [] := by
      cases ys with
      | nil => rfl
      | cons y r =>
        obtain ⟨b, o, e, _⟩ := hy.cell (by simp)
        cases e
    subst hy0
    refine ⟨.slice none 0 0, w, ?_, OwnI.nil _ _, grown_refl _ _⟩
    simp [Builtin.append_, run_underlying Try.underlying24, sizeOf, typeInfo, hi0, Builtin.lenOf, Builtin.firstCells]
  | some ad =>
    have hn : ∀ j u, (ys.map iv)[j]? = some u → w.cell? (ad.add j) = some u := by
      intro j u hj
      have hne : ys ≠ [] := by intro e; subst e; simp at hj
      obtain ⟨b, o, e, _, hc⟩ := hy.cell hne
      injection e with e
      subst e
      rw [Addr.add_lit]
      rw [List.getElem?_map] at hj
      obtain ⟨x, hx, rfl⟩ := Option.map_eq_some_iff.1 hj
      exact hc j x hx
    obtain ⟨v', w', hr, h1, h2, h3⟩ := run_append_own w w.heap.size 24 ty 3 i0 _ 1 8 Try.underlying24 hi0 hz0 hzs hzb rfl (by decide) (.slice none 0 0) 0 [] (OwnI.nil w w.heap.size) ad ys.length cA (ys.map iv) (by simp) hn (oneCell_iv ys) (by unfold maxLen; omega) (by omega) (Nat.le_refl _)
    refine ⟨v', w', hr, ?_, h2⟩
    unfold OwnI
    simpa using h1
/-- Numbers are answered in memory of the call's own. -/
def OwnInts (l : List Int) (w : World) (e : Ending) (w' : World) : Prop := ∃ a c, e = .returned (.slice a l.length c) ∧ OwnI w' w.heap.size (.slice a l.length c) l ∧ Below w.heap.size w w'
set_option maxHeartbeats 2000000 in
theorem ownInts_any (a : Option Addr) (cap : Nat) (l : List Int) (w : World) (h : IntsP w a cap l) (hl : l.length ≤ 1000000) : Calls Try.prog 49 #[.slice a l.length cap] w (OwnInts l w) := by
  obtain ⟨v1, w1, hr, o1, g1⟩ := run_append_ints w l a cap h hl 24
  have b1 := below_grown_none g1
  obtain ⟨a1, p1, e1, _⟩ := o1.ints
  subst e1
  have HR := Lib.hid hr
  clear h g1 hr
  go_enter Try.func49, Try.ntmps49
  go_wp2_with (at_builtin; go_must (refine Lib.wpList_append_run _ rfl _ _ 24 24 rfl _ _ rfl rfl _ _ HR.out ?_))
  go_ret
  exact ⟨a1, p1, rfl, o1, b1⟩
/-- Elements of a kind are answered in memory of the call's own. -/
def OwnEls {α : Type} (L : Lay α) (l : List α) (w : World) (e : Ending) (w' : World) : Prop := ∃ a c, e = .returned (.slice a l.length c) ∧ OwnS L w' w.heap.size (.slice a l.length c) l ∧ Below w.heap.size w w'
set_option maxHeartbeats 2000000 in
theorem ownOrders_any (a : Option Addr) (cap : Nat) (l : List OdR) (w : World) (h : SlP LO w a cap l) (hl : l.length ≤ 1000000) : Calls Try.prog 50 #[.slice a l.length cap] w (OwnEls LO l w) := by
  obtain ⟨v1, w1, hr, o1, g1⟩ := run_append_sl LO_ok w w.heap.size (.slice none 0 0) [] l (OwnS.nil _ _) a cap h (by simp; omega) (Nat.le_refl _) 25
  have b1 := below_grown_none (show w.grownBy w1 none from g1)
  have o2 : OwnS LO w1 w.heap.size v1 l := o1
  obtain ⟨a1, p1, e1⟩ := o2.shape
  subst e1
  have hr2 : (Builtin.append_ #[25, 25] 25 #[.slice none 0 0, .slice a l.length cap]).run Try.prog w = .ok (.slice a1 l.length p1) w1 := hr
  have HR := Lib.hid hr2
  clear h g1 o1 hr hr2
  go_enter Try.func50, Try.ntmps50
  go_wp2_with (at_builtin; go_must (refine Lib.wpList_append_run _ rfl _ _ 25 25 rfl _ _ rfl rfl _ _ HR.out ?_))
  go_ret
  exact ⟨a1, p1, rfl, o2, b1⟩
set_option maxHeartbeats 2000000 in
theorem ownBatches_any (a : Option Addr) (cap : Nat) (l : List BtR) (w : World) (h : SlP LB w a cap l) (hl : l.length ≤ 1000000) : Calls Try.prog 52 #[.slice a l.length cap] w (OwnEls LB l w) := by
  obtain ⟨v1, w1, hr, o1, g1⟩ := run_append_sl LB_ok w w.heap.size (.slice none 0 0) [] l (OwnS.nil _ _) a cap h (by simp; omega) (Nat.le_refl _) 26
  have b1 := below_grown_none (show w.grownBy w1 none from g1)
  have o2 : OwnS LB w1 w.heap.size v1 l := o1
  obtain ⟨a1, p1, e1⟩ := o2.shape
  subst e1
  have hr2 : (Builtin.append_ #[26, 26] 26 #[.slice none 0 0, .slice a l.length cap]).run Try.prog w = .ok (.slice a1 l.length p1) w1 := hr
  have HR := Lib.hid hr2
  clear h g1 o1 hr hr2
  go_enter Try.func52, Try.ntmps52
  go_wp2_with (at_builtin; go_must (refine Lib.wpList_append_run _ rfl _ _ 26 26 rfl _ _ rfl rfl _ _ HR.out ?_))
  go_ret
  exact ⟨a1, p1, rfl, o2, b1⟩
set_option maxHeartbeats 2000000 in
theorem ownEffects_any (a : Option Addr) (cap : Nat) (l : List Ef) (w : World) (h : SlP LE w a cap l) (hl : l.length ≤ 1000000) : Calls Try.prog 54 #[.slice a l.length cap] w (OwnEls LE l w) := by
  obtain ⟨v1, w1, hr, o1, g1⟩ := run_append_sl LE_ok w w.heap.size (.slice none 0 0) [] l (OwnS.nil _ _) a cap h (by simp; omega) (Nat.le_refl _) 27
  have b1 := below_grown_none (show w.grownBy w1 none from g1)
  have o2 : OwnS LE w1 w.heap.size v1 l := o1
  obtain ⟨a1, p1, e1⟩ := o2.shape
  subst e1
  have hr2 : (Builtin.append_ #[27, 27] 27 #[.slice none 0 0, .slice a l.length cap]).run Try.prog w = .ok (.slice a1 l.length p1) w1 := hr
  have HR := Lib.hid hr2
  clear h g1 o1 hr hr2
  go_enter Try.func54, Try.ntmps54
  go_wp2_with (at_builtin; go_must (refine Lib.wpList_append_run _ rfl _ _ 27 27 rfl _ _ rfl rfl _ _ HR.out ?_))
  go_ret
  exact ⟨a1, p1, rfl, o2, b1⟩
end

/- StCopy: What package state's Copy answers: a state whose lists are the call's own. -/
section
set_option maxRecDepth 100000
open Go.RowKit Go.ChangeShapes Go.WideShapes Go.ChangeAt
attribute [local go_sem ↓] ldOr stOr alOr bxOr bdOr ldBa stBa alBa bxBa bdBa ldSt stSt alSt bxSt bdSt ldEf stEf alEf bxEf eqEf bdEf bsEf ldGr bxGr eqGr ldCa bxCa eqCa
attribute [local go_sem] al_or bx_or st_ornew bd_or al_ba bx_ba st_banew bd_ba al_sta bx_sta st_stnew bd_sta al_ef bx_ef st_new bd_ef bs_ef bs_ef0 bx_gr ne_gr bx_ca ne_ca eq_caX eq_grX

/-- A row of a call's own, told by its data. -/
structure RowD where
  e : TypeId
  n : Nat
  a : Option Addr
  m : Nat
  c : Nat
  len : Nat
  cells : List Value
def RowD.owns (d : RowD) (w : World) (base : Nat) : Prop := w.ownsRow base d.e d.n (.slice d.a d.m d.c) d.len d.cells
structure OwnRows (w : World) (base : Nat) (rs : List RowD) : Prop where
  owns : ∀ d ∈ rs, d.owns w base
  apart : Mine (rs.map (·.a)) base w.heap.size
theorem OwnRows.nil (w : World) (base : Nat) : OwnRows w base [] := ⟨by simp, Mine.nil _ _⟩
theorem OwnRows.keep {w w' : World} {base : Nat} {rs : List RowD} (h : OwnRows w base rs) (hs : w.heap.size ≤ w'.heap.size) (hb : ∀ k, base ≤ k → k < w.heap.size → w'.heap[k]? = w.heap[k]?) : OwnRows w' base rs :=
  ⟨fun d hd => row_else (h.owns d hd) (fun x hx => hb _ (rowS_at (h.owns d hd) x hx).1 (rowS_at (h.owns d hd) x hx).2), h.apart.mono (Nat.le_refl _) hs⟩
theorem OwnRows.below {w w' : World} {base : Nat} {rs : List RowD} (h : OwnRows w base rs) (b : Below w.heap.size w w') : OwnRows w' base rs := h.keep b.size fun k _ hk => b.block k hk
theorem OwnRows.push {w w' : World} {base : Nat} {rs : List RowD} (h : OwnRows w base rs) (b : Below w.heap.size w w') (hB : base ≤ w.heap.size) (d : RowD) (hd : d.owns w' w.heap.size) : OwnRows w' base (rs ++ [d]) := by
  refine ⟨fun x hx => ?_, ?_⟩
  · rcases List.mem_append.1 hx with hx | hx
    · exact (h.below b).owns x hx
    · rw [List.mem_singleton.1 hx]
      exact row_low hd hB
  · rw [List.map_append]
    exact h.apart.push hB b.size (fun x hx => rowS_at hd x hx)
theorem OwnRows.lower {w : World} {base base' : Nat} {rs : List RowD} (h : OwnRows w base rs) (hb : base' ≤ base) : OwnRows w base' rs := ⟨fun d hd => row_low (h.owns d hd) hb, h.apart.mono hb (Nat.le_refl _)⟩
/-- One of the rows is written. -/
theorem OwnRows.put {w w' : World} {base : Nat} {rs : List RowD} (h : OwnRows w base rs) (i : Nat) (hi : i < rs.length) (d : RowD) (ha : d.a = rs[i].a) (hs : w'.heap.size = w.heap.size) (hd : d.owns w' base) (g : Addr) (hg : rs[i].a = some g) (hb : ∀ k, k ≠ g.block → w'.heap[k]? = w.heap[k]?) : OwnRows w' base (rs.set i d) := by
  refine ⟨fun x hx => ?_, ?_⟩
  · obtain ⟨j, hj, rfl⟩ := List.getElem_of_mem hx
    rw [List.length_set] at hj
    by_cases hij : i = j
    · subst hij
      rw [List.getElem_set_self]
      exact hd
    · rw [List.getElem_set_ne hij]
      refine row_else (h.owns _ (List.getElem_mem hj)) (fun y hy => hb _ ?_)
      have hp := List.pairwise_iff_getElem.1 h.apart.pw
      have hli : i < (rs.map (·.a)).length := by simpa using hi
      have hlj : j < (rs.map (·.a)).length := by simpa using hj
      rcases Nat.lt_or_gt_of_ne hij with hlt | hlt
      · exact fun e => hp i j hli hlj hlt g y (by simpa using hg) (by simpa using hy) e.symm
      · exact fun e => hp j i hlj hli hlt y g (by simpa using hy) (by simpa using hg) e
  · have e : (rs.set i d).map (·.a) = rs.map (·.a) := by
      apply List.ext_getElem?
      intro j
      rw [List.getElem?_map, List.getElem?_map, List.getElem?_set]
      by_cases hij : i = j
      · subst hij
        rw [if_pos rfl, if_pos hi, List.getElem?_eq_getElem hi]
        simp [ha]
      · rw [if_neg hij]
    rw [e, hs]
    exact h.apart
theorem OwnRows.putMid {w w' : World} {base : Nat} {P Q : List RowD} {d0 : RowD} (h : OwnRows w base (P ++ [d0] ++ Q)) (d : RowD) (ha : d.a = d0.a) (hs : w'.heap.size = w.heap.size) (hd : d.owns w' base) (g : Addr) (hg : d0.a = some g) (hb : ∀ k, k ≠ g.block → w'.heap[k]? = w.heap[k]?) : OwnRows w' base (P ++ [d] ++ Q) := by
  have hi : P.length < (P ++ [d0] ++ Q).length := by simp
  have hget : (P ++ [d0] ++ Q)[P.length] = d0 := by simp
  have hset : (P ++ [d0] ++ Q).set P.length d = P ++ [d] ++ Q := by simp
  have := h.put P.length hi d (by rw [hget]; exact ha) hs hd g (by rw [hget]; exact hg) hb
  rwa [hset] at this
def rdI (a : Option Addr) (c : Nat) (l : List Int) : RowD := ⟨3, 1, a, l.length, c, l.length, l.map iv⟩
def rdS {α : Type} (L : Lay α) (a : Option Addr) (c : Nat) (l : List α) : RowD := ⟨L.T, L.n, a, l.length, c, l.length, cellsG L l⟩
def rdL (x : OdR) : RowD := ⟨50, 3, x.a, x.o.ls.length, x.c, x.o.ls.length, cellsL x.o.ls⟩
def rdT (x : BtR) : RowD := ⟨9, 1, x.a, x.b.mem.length, x.c, x.b.mem.length, x.b.mem.map .string⟩
/-- All lists of a state. -/
def rowsOf (s : StR) : List RowD := [rdI s.da s.dc s.doors, rdS LO s.oa s.oc s.ords] ++ s.ords.map rdL ++ [rdS LB s.ba s.bc s.bats] ++ s.bats.map rdT ++ [rdS LE s.ea s.ec s.effs]
/-- Sizes that texts and lists can have. -/
structure SizesS (s : StR) : Prop where
  doors : s.doors.length ≤ maxLen
  ords : ∀ x ∈ s.ords, (∀ z ∈ x.o.ls, z.sku.size ≤ maxLen) ∧ x.o.ls.length ≤ maxLen ∧ x.o.id.size ≤ maxLen ∧ x.o.car.size ≤ maxLen ∧ x.o.zone.size ≤ maxLen ∧ x.o.serv.size ≤ maxLen
  bats : ∀ x ∈ s.bats, (∀ z ∈ x.b.mem, z.size ≤ maxLen) ∧ x.b.car.size ≤ maxLen ∧ x.b.zone.size ≤ maxLen ∧ x.b.serv.size ≤ maxLen
  effs : ∀ e ∈ s.effs, e.order.size ≤ maxLen
theorem sizes_of {w : World} {s : StR} (h : StP w s) : SizesS s :=
  ⟨h.dlen, fun x hx => ⟨(h.ords.each x hx).lns.size, (h.ords.each x hx).len, (h.ords.each x hx).id, (h.ords.each x hx).car, (h.ords.each x hx).zone, (h.ords.each x hx).serv⟩, fun x hx => ⟨(h.bats.each x hx).fit, (h.bats.each x hx).car, (h.bats.each x hx).zone, (h.bats.each x hx).serv⟩, h.effs.each⟩
theorem SizesS.like {r s : StR} (h : SizesS r) (he : s.st = r.st) : SizesS s := by
  have hd : s.doors = r.doors := congrArg St.doors he
  have ho : odsOf s.ords = odsOf r.ords := congrArg St.ords he
  have hb : btsOf s.bats = btsOf r.bats := congrArg St.bats he
  have hf : s.effs = r.effs := congrArg St.effs he
  refine ⟨by rw [hd]; exact h.doors, fun x hx => ?_, fun x hx => ?_, by rw [hf]; exact h.effs⟩
  · have hm : x.o ∈ odsOf r.ords := by rw [← ho]; exact List.mem_map_of_mem hx
    obtain ⟨y, hy, hxy⟩ := List.mem_map.1 hm
    rw [← hxy]
    exact h.ords y hy
  · have hm : x.b ∈ btsOf r.bats := by rw [← hb]; exact List.mem_map_of_mem hx
    obtain ⟨y, hy, hxy⟩ := List.mem_map.1 hm
    rw [← hxy]
    exact h.bats y hy
/-- What the rows read as. -/
theorem stP_of_rows {s : StR} {w : World} {base : Nat} (h : SizesS s) (hr : OwnRows w base (rowsOf s)) : StP w s := by
  have r1 : OwnI w base (.slice s.da s.doors.length s.dc) s.doors := hr.owns (rdI s.da s.dc s.doors) (by simp [rowsOf])
  have r2 : OwnS LO w base (.slice s.oa s.ords.length s.oc) s.ords := hr.owns (rdS LO s.oa s.oc s.ords) (by simp [rowsOf])
  have r3 : OwnS LB w base (.slice s.ba s.bats.length s.bc) s.bats := hr.owns (rdS LB s.ba s.bc s.bats) (by simp [rowsOf])
  have r4 : OwnS LE w base (.slice s.ea s.effs.length s.ec) s.effs := hr.owns (rdS LE s.ea s.ec s.effs) (by simp [rowsOf])
  have r5 : ∀ x ∈ s.ords, OwnL w base (.slice x.a x.o.ls.length x.c) x.o.ls := fun x hx => hr.owns (rdL x) (by simp only [rowsOf, List.mem_append, List.mem_map]; exact .inl (.inl (.inl (.inr ⟨x, hx, rfl⟩))))
  have r6 : ∀ x ∈ s.bats, OwnT w base (.slice x.a x.b.mem.length x.c) x.b.mem := fun x hx => hr.owns (rdT x) (by simp only [rowsOf, List.mem_append, List.mem_map]; exact .inl (.inr ⟨x, hx, rfl⟩))
  refine ⟨r1.at, h.doors, ⟨?_, fun x hx => ?_⟩, ⟨?_, fun x hx => ?_⟩, ⟨?_, h.effs⟩⟩
  · obtain ⟨a, c, e, hsl⟩ := r2.sl
    injection e with e1 _ e2
    subst e1 e2
    exact hsl
  · obtain ⟨z1, z2, z3, z4, z5, z6⟩ := h.ords x hx
    obtain ⟨a, c, e, hsl⟩ := (r5 x hx).lns z1
    injection e with e1 _ e2
    subst e1 e2
    exact ⟨hsl, z2, z3, z4, z5, z6⟩
  · obtain ⟨a, c, e, hsl⟩ := r3.sl
    injection e with e1 _ e2
    subst e1 e2
    exact hsl
  · obtain ⟨z1, z4, z5, z6⟩ := h.bats x hx
    exact ⟨(r6 x hx).reads.2, z1, z4, z5, z6⟩
  · obtain ⟨a, c, e, hsl⟩ := r4.sl
    injection e with e1 _ e2
    subst e1 e2
    exact hsl
/-- A state is answered whose lists are the call's own. -/
def CopyOut (r : StR) (w : World) (e : Ending) (w' : World) : Prop := ∃ s : StR, e = .returned (stV s) ∧ s.st = r.st ∧ StP w' s ∧ OwnRows w' w.heap.size (rowsOf s) ∧ Below w.heap.size w w'
def CopyC : Prop := ∀ (r : StR) (w : World), StP w r → Small r → Calls Try.prog 17 #[stV r] w (CopyOut r w)

/-- The state in its variable, and the result's variable. -/
structure CpV (w : World) (s : StR) (W : World) : Prop where
  var : Row W w.heap.size 29 (stC s)
  res : Row W (w.heap.size + 1) 29 (stC noStR)
  low : Below w.heap.size w W
theorem CpV.below {w W W' : World} {s : StR} (h : CpV w s W) (b : Below W.heap.size W W') : CpV w s W' := ⟨h.var.below b, h.res.below b, h.low.trans (b.mono h.low.size)⟩
theorem CpV.set {w W : World} {s : StR} (h : CpV w s W) (i : Nat) (v : Value) (s' : StR) (e : (stC s).setIfInBounds i v = stC s') : CpV w s' (W.setCell ⟨w.heap.size, i, none⟩ v) := by
  refine ⟨?_, (setCell_else W i v (by omega)).trans h.res, h.low.setCell (p := ⟨w.heap.size, i, none⟩) (Nat.le_refl _) v⟩
  rw [← e]
  exact h.var.set i v
theorem CpV.setCells {w W : World} {s : StR} (h : CpV w s W) (g o : Nat) (vs : List Value) (hg : w.heap.size + 2 ≤ g) : CpV w s (W.setCells g o vs) :=
  ⟨(setCells_else g _ (by omega) vs o W).trans h.var, (setCells_else g _ (by omega) vs o W).trans h.res, below_setCells (by omega) vs o W h.low⟩
theorem OwnRows.setVar {w W : World} {rs : List RowD} (h : OwnRows W (w.heap.size + 2) rs) (i : Nat) (v : Value) : OwnRows (W.setCell ⟨w.heap.size, i, none⟩ v) (w.heap.size + 2) rs :=
  h.keep (by simp [World.setCell]) fun k hk _ => setCell_else W i v (by omega)
theorem below_drewS (W : World) : Below W.heap.size W W.drew := ⟨rfl, rfl, rfl, Nat.le_refl _, fun _ _ => rfl⟩
def stD (r : StR) (da : Option Addr) (dc : Nat) (L : List OdR) (oa : Option Addr) (oc : Nat) (M : List BtR) (ba : Option Addr) (bc : Nat) (ea : Option Addr) (ec : Nat) : StR := ⟨r.waves, r.mans, r.limit, r.doors, da, dc, r.now, r.nb, r.nk, L, oa, oc, M, ba, bc, r.effs, ea, ec⟩
theorem take_set_succ {α : Type} {l : List α} {k : Nat} (h : k < l.length) (y : α) : (l.set k y).take (k + 1) = l.take k ++ [y] := by
  rw [List.take_succ_eq_append_getElem (by simpa using h), List.getElem_set_self, List.take_set_of_le (Nat.le_refl _)]
theorem drop_set_succ {α : Type} {l : List α} {k : Nat} (y : α) : (l.set k y).drop (k + 1) = l.drop (k + 1) := by
  rw [List.drop_set_of_lt (by omega)]
theorem drop_get {α : Type} {l m : List α} {k : Nat} (h : l.drop k = m.drop k) (h1 : k < l.length) (h2 : k < m.length) : l[k] = m[k] := by
  rw [List.drop_eq_getElem_cons h1, List.drop_eq_getElem_cons h2] at h
  injection h

set_option maxHeartbeats 16000000 in
theorem copy_of : CopyC := by
  intro r w h hs
  have I := Lib.hid (FoI.begin w r h 29 (stC noStR))
  have HS := Lib.hid h
  have HSm := Lib.hid hs
  have hn1 := hs.ords
  have hn2 := hs.bats
  have c5 := I.out.box.st.1.2.2.2.2.2
  clear h hs
  go_enter Try.func17, Try.ntmps17
  go_wp2_with fail
  generalize (w.alloc (.cells (stC r) 29)).alloc (.cells (stC noStR) 29) = W0 at *
  have hB0 : w.heap.size + 2 ≤ W0.heap.size := I.out.res.lt
  have C := Lib.hid (ownInts_any r.da r.dc r.doors W0 I.out.st.doors (by have := HSm.out.doors; omega))
  refine C.out.mono ?_
  rintro e W1 ⟨da, dc, rfl, o1, b1⟩
  have V1 : CpV w r W1 := ⟨I.out.box.below b1, I.out.res.below b1, I.out.low.trans (b1.mono I.out.low.size)⟩
  have O1 := (OwnRows.nil W0 (w.heap.size + 2)).push b1 hB0 (rdI da dc r.doors) o1
  have hB1 : w.heap.size + 2 ≤ W1.heap.size := Nat.le_trans hB0 b1.size
  have V2 := Lib.hid (V1.set 5 (.slice da r.doors.length dc) (stD r da dc r.ords r.oa r.oc r.bats r.ba r.bc r.ea r.ec) rfl)
  have O2 := Lib.hid (O1.setVar 5 (.slice da r.doors.length dc))
  clear c5 C
  have c5 := V1.var.st.1.2.2.2.2.2
  have f5 := V1.var.free 5
  have c9 : (W1.setCell ⟨w.heap.size, 5, none⟩ (.slice da r.doors.length dc)).cell? ⟨w.heap.size, 9, none⟩ = some (.slice r.oa r.ords.length r.oc) := V2.out.var.st.2.2.2.2.1
  have hB2 : w.heap.size + 2 ≤ (W1.setCell ⟨w.heap.size, 5, none⟩ (.slice da r.doors.length dc)).heap.size := by simpa [World.setCell] using hB1
  clear b1 o1 V1 O1 I
  go_wp2_with fail
  generalize W1.setCell ⟨w.heap.size, 5, none⟩ (.slice da r.doors.length dc) = W2 at *
  have C := Lib.hid (ownOrders_any r.oa r.oc r.ords W2 (HS.out.below V2.out.low).ords.sl (by omega))
  clear c5 f5 c9 hB0 hB1
  refine C.out.mono ?_
  rintro e W3 ⟨oa, oc, rfl, o3, b3⟩
  have V3 := V2.out.below b3
  have O3 := O2.out.push b3 hB2 (rdS LO oa oc r.ords) o3
  have hB3 : w.heap.size + 2 ≤ W3.heap.size := Nat.le_trans hB2 b3.size
  have V4 := Lib.hid (V3.set 9 (.slice oa r.ords.length oc) (stD r da dc r.ords oa oc r.bats r.ba r.bc r.ea r.ec) rfl)
  have O4 := Lib.hid (O3.setVar 9 (.slice oa r.ords.length oc))
  have c9 : W3.cell? ⟨w.heap.size, 9, none⟩ = some (.slice r.oa r.ords.length r.oc) := V3.var.st.2.2.2.2.1
  have f9 := V3.var.free 9
  have d9 : (W3.setCell ⟨w.heap.size, 9, none⟩ (.slice oa r.ords.length oc)).cell? ⟨w.heap.size, 9, none⟩ = some (.slice oa r.ords.length oc) := V4.out.var.st.2.2.2.2.1
  have hB4 : w.heap.size + 2 ≤ (W3.setCell ⟨w.heap.size, 9, none⟩ (.slice oa r.ords.length oc)).heap.size := by simpa [World.setCell] using hB3
  clear b3 o3 V3 O3 C V2 O2
  go_wp2_with fail
  generalize W3.setCell ⟨w.heap.size, 9, none⟩ (.slice oa r.ords.length oc) = W4 at *
  clear c9 f9 d9 hB2 hB3
  go_loopw [18] (fun i wr => ∃ (k : Nat) (L : List OdR), k ≤ r.ords.length ∧ i = .int .i64 k ∧ L.length = r.ords.length ∧ Hid (CpV w (stD r da dc L oa oc r.bats r.ba r.bc r.ea r.ec) wr) ∧ Hid (OwnRows wr (w.heap.size + 2) ([rdI da dc r.doors, rdS LO oa oc L] ++ (L.take k).map rdL)) ∧ Hid (odsOf L = odsOf r.ords) ∧ Hid (L.drop k = r.ords.drop k) ∧ Hid (w.heap.size + 2 ≤ wr.heap.size)) (fun i _ => r.ords.length - (intOf i).toNat)
  case atStart => exact ⟨0, r.ords, Nat.zero_le _, rfl, rfl, V4, by simpa using O4, Lib.hid rfl, Lib.hid rfl, Lib.hid hB4⟩
  case round =>
    clear V4 O4 hB4
    obtain ⟨k, L, hk, rfl, hL, HV, HO, HE, HD, HB⟩ := hrel
    by_cases hlt : k < r.ords.length
    · have hkL : k < L.length := by omega
      have hown : OwnS LO wr (w.heap.size + 2) (.slice oa L.length oc) L := HO.out.owns (rdS LO oa oc L) (by simp)
      obtain ⟨g2, cap2, e2, _, _, hcap, _, _, _⟩ := hown.at LO_ok k hkL
      injection e2 with e3 _ e4
      subst e3 e4
      have hx := drop_get HD.out hkL hlt
      obtain ⟨_, ld, _, hg2, _⟩ := hown.ld LO_ok k hkL
      have ld' : LdX 48 (.pointer (some ⟨g2, k * 10, none⟩)) wr = .ok (.value (orV r.ords[k])) wr := by rw [← hx]; exact ld
      have HP := Lib.hid ((HS.out.below HV.out.low).ords.each _ (List.getElem_mem hlt))
      have hlen := HSm.out.ls _ (List.getElem_mem hlt)
      have HX := Lib.hid hx
      clear ld hown hx
      generalize hxx : r.ords[k] = x at *
      have HXX := Lib.hid hxx
      clear hxx
      have bw : Below wr.heap.size wr (wr.alloc (.cells (orC x) 48)) := (Below.refl _ _).alloc (Nat.le_refl _) _
      have bd : Below wr.heap.size wr (wr.alloc (.cells (orC x) 48)).drew := bw.trans ((below_drewS _).mono bw.size)
      have R := Lib.hid (Row.new wr (orC x) 48)
      have Vd := Lib.hid (HV.out.below bd)
      have Od := Lib.hid (HO.out.below bd)
      have CC := Lib.hid (copyO_any x (wr.alloc (.cells (orC x) 48)).drew (HP.out.below bd) (by omega))
      have hBd : w.heap.size + 2 ≤ (wr.alloc (.cells (orC x) 48)).drew.heap.size := Nat.le_trans HB.out bd.size
      have c9 : (wr.alloc (.cells (orC x) 48)).drew.cell? ⟨w.heap.size, 9, none⟩ = some (.slice (some ⟨g2, 0, none⟩) L.length oc) := Vd.out.var.st.2.2.2.2.1
      have c9' : (wr.alloc (.cells (orC x) 48)).drew.cell? ⟨w.heap.size, 9, none⟩ = some (.slice (some ⟨g2, 0, none⟩) r.ords.length oc) := by rw [← hL]; exact c9
      have ldx : LdX 48 (.pointer (some ⟨wr.heap.size, 0, none⟩)) (wr.alloc (.cells (orC x) 48)).drew = .ok (.value (orV x)) (wr.alloc (.cells (orC x) 48)).drew := ld_or (W := (wr.alloc (.cells (orC x) 48)).drew) R.out
      have Rd : Hid (Row (wr.alloc (.cells (orC x) 48)).drew wr.heap.size 48 (orC x)) := R
      have hcp : r.ords.length ≤ oc := by rw [← hL]; exact hcap
      clear c9 bw bd HV HO HB hcap HP R
      go_wp2_with fail
      generalize wr.alloc (.cells (orC x) 48) = Wa at *
      go_region_law ((try go_simp); go_at_call 51; refine CC.out.mono ?_; rintro e w2 ⟨y, rfl, hy, o2, b2⟩; have c9w : w2.cell? ⟨w.heap.size, 9, none⟩ = some (.slice (some ⟨g2, 0, none⟩) r.ords.length oc) := (by rw [← hL]; exact (Vd.out.below b2).var.st.2.2.2.2.1); have ldw := ld_or (Rd.out.below b2); have ow : OwnS LO w2 (w.heap.size + 2) (.slice (some ⟨g2, 0, none⟩) L.length oc) L := (Od.out.below b2).owns (rdS LO (some ⟨g2, 0, none⟩) oc L) (by simp); have sw : StX 48 (.pointer (some ⟨g2, k * 10, none⟩)) (orV y) w2 = .ok .skip (w2.setCells g2 (k * 10) (orL y)) := ow.store LO_ok k hkL y; have Ow := Lib.hid ow; have O2 := Lib.hid (Od.out.push b2 hBd (rdL y) o2); have V2 := Lib.hid (Vd.out.below b2); have hB2 := Nat.le_trans hBd b2.size; have Hy := Lib.hid hy; clear ow o2 b2 hy)
      all_goals
        have V3 : Hid (CpV w (stD r da dc (L.set k y) (some ⟨g2, 0, none⟩) oc r.bats r.ba r.bc r.ea r.ec) (w2.setCells g2 (k * 10) (orL y))) := Lib.hid (by
          have := V2.out.setCells g2 (k * 10) (orL y) hg2
          have e : stC (stD r da dc (L.set k y) (some ⟨g2, 0, none⟩) oc r.bats r.ba r.bc r.ea r.ec) = stC (stD r da dc L (some ⟨g2, 0, none⟩) oc r.bats r.ba r.bc r.ea r.ec) := by
            show #[_, _, _, _, _, _, _, _, _, Value.slice _ (L.set k y).length _, _, _] = _
            rw [List.length_set]
            rfl
          exact ⟨e ▸ this.var, this.res, this.low⟩)
        have O3 := Lib.hid (O2.out.put 1 (by simp) (rdS LO (some ⟨g2, 0, none⟩) oc (L.set k y)) rfl (setCells_size g2 (orL y) (k * 10) w2) (by
          have h1 := Ow.out.put LO_ok k hkL y
          have h2 : OwnS LO (w2.setCells g2 (k * 10) (orL y)) (w.heap.size + 2) (.slice (some ⟨g2, 0, none⟩) (L.set k y).length oc) (L.set k y) := by rw [List.length_set]; exact h1
          exact h2) ⟨g2, 0, none⟩ rfl (fun j hj => setCells_else g2 j hj (orL y) (k * 10) w2))
        have HN := Lib.hid (show odsOf (L.set k y) = odsOf r.ords by
          rw [← HE.out]
          unfold odsOf
          rw [List.map_set, show y.o = (L.map (·.o))[k]'(by simpa using hkL) by rw [Hy.out, List.getElem_map, HX.out], List.set_getElem_self])
        have HN2 := Lib.hid (show (L.set k y).drop (k + 1) = r.ords.drop (k + 1) by
          rw [drop_set_succ, ← List.drop_drop, HD.out, List.drop_drop])
        have hB3 : w.heap.size + 2 ≤ (w2.setCells g2 (k * 10) (orL y)).heap.size := by rw [setCells_size]; exact hB2
        go_wp2_with fail
        go_roundw
        case rel => exact ⟨k + 1, L.set k y, by omega, by go_num, by rw [List.length_set]; exact hL, V3, by rw [take_set_succ hkL, List.map_append]; exact O3, HN, HN2, Lib.hid hB3⟩
        case measure => simp [intOf]; omega
    · have hkn : k = r.ords.length := by omega
      have O5 : Hid (OwnRows wr (w.heap.size + 2) ([rdI da dc r.doors, rdS LO oa oc L] ++ L.map rdL)) := Lib.hid (by
        have := HO.out
        rwa [List.take_of_length_le (by omega)] at this)
      have hcB := HB.out
      have c10 : wr.cell? ⟨w.heap.size, 10, none⟩ = some (.slice r.ba r.bats.length r.bc) := HV.out.var.st.2.2.2.2.2.1
      have C := Lib.hid (ownBatches_any r.ba r.bc r.bats wr (HS.out.below HV.out.low).bats.sl (by omega))
      clear HO HD HB hkn
      go_wp2_with fail
      clear hlt
      refine C.out.mono ?_
      rintro e W5 ⟨ba, bc, rfl, o5, b5⟩
      have V5 := HV.out.below b5
      have O6 := O5.out.push b5 hcB (rdS LB ba bc r.bats) o5
      have hB5 : w.heap.size + 2 ≤ W5.heap.size := Nat.le_trans hcB b5.size
      have V6 := Lib.hid (V5.set 10 (.slice ba r.bats.length bc) (stD r da dc L oa oc r.bats ba bc r.ea r.ec) rfl)
      have O7 := Lib.hid (O6.setVar 10 (.slice ba r.bats.length bc))
      clear c10 C
      have c10 : W5.cell? ⟨w.heap.size, 10, none⟩ = some (.slice r.ba r.bats.length r.bc) := V5.var.st.2.2.2.2.2.1
      have f10 := V5.var.free 10
      have d10 : (W5.setCell ⟨w.heap.size, 10, none⟩ (.slice ba r.bats.length bc)).cell? ⟨w.heap.size, 10, none⟩ = some (.slice ba r.bats.length bc) := V6.out.var.st.2.2.2.2.2.1
      have hB6 : w.heap.size + 2 ≤ (W5.setCell ⟨w.heap.size, 10, none⟩ (.slice ba r.bats.length bc)).heap.size := by simpa [World.setCell] using hB5
      clear b5 o5 V5 O6 HV O5
      go_wp2_with fail
      generalize W5.setCell ⟨w.heap.size, 10, none⟩ (.slice ba r.bats.length bc) = W6 at *
      clear c10 f10 d10 hB5 hcB
      go_loopw [37] (fun i wi => ∃ (k : Nat) (M : List BtR), k ≤ r.bats.length ∧ i = .int .i64 k ∧ M.length = r.bats.length ∧ Hid (CpV w (stD r da dc L oa oc M ba bc r.ea r.ec) wi) ∧ Hid (OwnRows wi (w.heap.size + 2) (([rdI da dc r.doors, rdS LO oa oc L] ++ L.map rdL) ++ [rdS LB ba bc M] ++ (M.take k).map rdT)) ∧ Hid (btsOf M = btsOf r.bats) ∧ Hid (M.drop k = r.bats.drop k) ∧ Hid (w.heap.size + 2 ≤ wi.heap.size)) (fun i _ => r.bats.length - (intOf i).toNat)
      case atStart => exact ⟨0, r.bats, Nat.zero_le _, rfl, rfl, V6, by simpa using O7, Lib.hid rfl, Lib.hid rfl, Lib.hid hB6⟩
      case round =>
        clear V6 O7 hB6
        obtain ⟨k, M, hk, rfl, hM, HV, HO, HE2, HD, HB⟩ := hrel
        by_cases hlt : k < r.bats.length
        · have hkM : k < M.length := by omega
          have hown : OwnS LB wr (w.heap.size + 2) (.slice ba M.length bc) M := HO.out.owns (rdS LB ba bc M) (by simp)
          obtain ⟨g2, cap2, e2, _, _, hcap, _, _, _⟩ := hown.at LB_ok k hkM
          injection e2 with e3 _ e4
          subst e3 e4
          have hx := drop_get HD.out hkM hlt
          obtain ⟨_, ld, _, hg2, _⟩ := hown.ld LB_ok k hkM
          have ld' : LdX 53 (.pointer (some ⟨g2, k * 9, none⟩)) wr = .ok (.value (baV r.bats[k])) wr := by rw [← hx]; exact ld
          have HP := Lib.hid ((HS.out.below HV.out.low).bats.each _ (List.getElem_mem hlt))
          have hlen := HSm.out.mem _ (List.getElem_mem hlt)
          have HX := Lib.hid hx
          clear ld hown hx
          generalize hxx : r.bats[k] = x at *
          have HXX := Lib.hid hxx
          clear hxx
          have bw : Below wr.heap.size wr (wr.alloc (.cells (baC x) 53)) := (Below.refl _ _).alloc (Nat.le_refl _) _
          have bd : Below wr.heap.size wr (wr.alloc (.cells (baC x) 53)).drew := bw.trans ((below_drewS _).mono bw.size)
          have R := Lib.hid (Row.new wr (baC x) 53)
          have Vd := Lib.hid (HV.out.below bd)
          have Od := Lib.hid (HO.out.below bd)
          have CC := Lib.hid (ownBatch_any x (wr.alloc (.cells (baC x) 53)).drew (HP.out.below bd) (by omega))
          have hBd : w.heap.size + 2 ≤ (wr.alloc (.cells (baC x) 53)).drew.heap.size := Nat.le_trans HB.out bd.size
          have c9 : (wr.alloc (.cells (baC x) 53)).drew.cell? ⟨w.heap.size, 10, none⟩ = some (.slice (some ⟨g2, 0, none⟩) M.length bc) := Vd.out.var.st.2.2.2.2.2.1
          have c9' : (wr.alloc (.cells (baC x) 53)).drew.cell? ⟨w.heap.size, 10, none⟩ = some (.slice (some ⟨g2, 0, none⟩) r.bats.length bc) := by rw [← hM]; exact c9
          have ldx : LdX 53 (.pointer (some ⟨wr.heap.size, 0, none⟩)) (wr.alloc (.cells (baC x) 53)).drew = .ok (.value (baV x)) (wr.alloc (.cells (baC x) 53)).drew := ld_ba (W := (wr.alloc (.cells (baC x) 53)).drew) R.out
          have Rd : Hid (Row (wr.alloc (.cells (baC x) 53)).drew wr.heap.size 53 (baC x)) := R
          have hcp : r.bats.length ≤ bc := by rw [← hM]; exact hcap
          clear c9 bw bd HV HO HB hcap HP R
          go_wp2_with fail
          generalize wr.alloc (.cells (baC x) 53) = Wa at *
          go_region_law ((try go_simp); go_at_call 53; refine CC.out.mono ?_; rintro e w2 ⟨y, rfl, hy, o2, b2⟩; have c9w : w2.cell? ⟨w.heap.size, 10, none⟩ = some (.slice (some ⟨g2, 0, none⟩) r.bats.length bc) := (by rw [← hM]; exact (Vd.out.below b2).var.st.2.2.2.2.2.1); have ldw := ld_ba (Rd.out.below b2); have ow : OwnS LB w2 (w.heap.size + 2) (.slice (some ⟨g2, 0, none⟩) M.length bc) M := (Od.out.below b2).owns (rdS LB (some ⟨g2, 0, none⟩) bc M) (by simp); have sw : StX 53 (.pointer (some ⟨g2, k * 9, none⟩)) (baV y) w2 = .ok .skip (w2.setCells g2 (k * 9) (baL y)) := ow.store LB_ok k hkM y; have Ow := Lib.hid ow; have O2 := Lib.hid (Od.out.push b2 hBd (rdT y) o2); have V2 := Lib.hid (Vd.out.below b2); have hB2 := Nat.le_trans hBd b2.size; have Hy := Lib.hid hy; clear ow o2 b2 hy)
          all_goals
            have V3 : Hid (CpV w (stD r da dc L oa oc (M.set k y) (some ⟨g2, 0, none⟩) bc r.ea r.ec) (w2.setCells g2 (k * 9) (baL y))) := Lib.hid (by
              have := V2.out.setCells g2 (k * 9) (baL y) hg2
              have e : stC (stD r da dc L oa oc (M.set k y) (some ⟨g2, 0, none⟩) bc r.ea r.ec) = stC (stD r da dc L oa oc M (some ⟨g2, 0, none⟩) bc r.ea r.ec) := by
                show #[_, _, _, _, _, _, _, _, _, _, Value.slice _ (M.set k y).length _, _] = _
                rw [List.length_set]
                rfl
              exact ⟨e ▸ this.var, this.res, this.low⟩)
            have O2b : OwnRows w2 (w.heap.size + 2) (([rdI da dc r.doors, rdS LO oa oc L] ++ L.map rdL) ++ [rdS LB (some ⟨g2, 0, none⟩) bc M] ++ ((M.take k).map rdT ++ [rdT y])) := by
              have := O2.out
              rwa [List.append_assoc] at this
            have O3 := Lib.hid (O2b.putMid (rdS LB (some ⟨g2, 0, none⟩) bc (M.set k y)) rfl (setCells_size g2 (baL y) (k * 9) w2) (by
              have h1 := Ow.out.put LB_ok k hkM y
              have h2 : OwnS LB (w2.setCells g2 (k * 9) (baL y)) (w.heap.size + 2) (.slice (some ⟨g2, 0, none⟩) (M.set k y).length bc) (M.set k y) := by rw [List.length_set]; exact h1
              exact h2) ⟨g2, 0, none⟩ rfl (fun j hj => setCells_else g2 j hj (baL y) (k * 9) w2))
            have HN := Lib.hid (show btsOf (M.set k y) = btsOf r.bats by
              rw [← HE2.out]
              unfold btsOf
              rw [List.map_set, show y.b = (M.map (·.b))[k]'(by simpa using hkM) by rw [Hy.out, List.getElem_map, HX.out], List.set_getElem_self])
            have HN2 := Lib.hid (show (M.set k y).drop (k + 1) = r.bats.drop (k + 1) by
              rw [drop_set_succ, ← List.drop_drop, HD.out, List.drop_drop])
            have hB3 : w.heap.size + 2 ≤ (w2.setCells g2 (k * 9) (baL y)).heap.size := by rw [setCells_size]; exact hB2
            clear O2b
            go_wp2_with fail
            go_roundw
            case rel => exact ⟨k + 1, M.set k y, by omega, by go_num, by rw [List.length_set]; exact hM, V3, by rw [take_set_succ hkM, List.map_append]; exact O3, HN, HN2, Lib.hid hB3⟩
            case measure => simp [intOf]; omega
        · have O8 : Hid (OwnRows wr (w.heap.size + 2) (([rdI da dc r.doors, rdS LO oa oc L] ++ L.map rdL) ++ [rdS LB ba bc M] ++ M.map rdT)) := Lib.hid (by
            have := HO.out
            rwa [List.take_of_length_le (by omega)] at this)
          have hcB := HB.out
          have c11 : wr.cell? ⟨w.heap.size, 11, none⟩ = some (.slice r.ea r.effs.length r.ec) := HV.out.var.st.2.2.2.2.2.2
          have C := Lib.hid (ownEffects_any r.ea r.ec r.effs wr (HS.out.below HV.out.low).effs.sl (by have := HSm.out.effs; omega))
          clear HO HD HB
          go_wp2_with fail
          clear hlt
          refine C.out.mono ?_
          rintro e W7 ⟨ea, ec, rfl, o7, b7⟩
          have V7 := HV.out.below b7
          have O9 := O8.out.push b7 hcB (rdS LE ea ec r.effs) o7
          have V8 := Lib.hid (V7.set 11 (.slice ea r.effs.length ec) (stD r da dc L oa oc M ba bc ea ec) rfl)
          have O10 := Lib.hid (O9.setVar 11 (.slice ea r.effs.length ec))
          have hB7 : w.heap.size + 2 ≤ W7.heap.size := Nat.le_trans hcB b7.size
          clear c11 C
          have c11 : W7.cell? ⟨w.heap.size, 11, none⟩ = some (.slice r.ea r.effs.length r.ec) := V7.var.st.2.2.2.2.2.2
          have f11 := V7.var.free 11
          clear b7 o7 V7 O9 HV O8
          have l1 := ld_sta V8.out.var
          have s1 := st_sta V8.out.res (stD r da dc L oa oc M ba bc ea ec)
          have HEq := Lib.hid (show (stD r da dc L oa oc M ba bc ea ec).st = r.st by
            unfold stD StR.st
            simp only [HE.out, HE2.out])
          go_wp2_with fail
          (try simp only [Exit.inBlock, Exit.then])
          apply bodyPost_ret
          case hd => rfl
          case hr => exact results_cell_alone rfl _ _ (w.heap.size + 1) _ rfl (load12 (setRow_heap _ _ _ _ _ _ V8.out.res))
          case hR =>
            have O11 : OwnRows ((W7.setCell ⟨w.heap.size, 11, none⟩ (.slice ea r.effs.length ec)).setRow (w.heap.size + 1) (stC (stD r da dc L oa oc M ba bc ea ec))) (w.heap.size + 2) (rowsOf (stD r da dc L oa oc M ba bc ea ec)) := O10.out.keep (by simp [World.setRow]) fun k hk _ => setRow_other _ _ k _ (by omega)
            exact ⟨_, rfl, HEq.out, stP_of_rows ((sizes_of HS.out).like HEq.out) O11, O11.lower (by omega), Below.row V8.out.low (by omega) _⟩
end

/- StCut: Cutting an effect out of a list: slices to a length and a room, from a place, and one put behind the other. -/
section
set_option maxRecDepth 100000
open Go.RowKit Go.ChangeShapes Go.WideShapes Go.ChangeAt
attribute [local go_sem ↓] ldOr stOr alOr bxOr bdOr ldBa stBa alBa bxBa bdBa ldSt stSt alSt bxSt bdSt ldEf stEf alEf bxEf eqEf bdEf bsEf ldGr bxGr eqGr ldCa bxCa eqCa
attribute [local go_sem] al_or bx_or st_ornew bd_or al_ba bx_ba st_banew bd_ba al_sta bx_sta st_stnew bd_sta al_ef bx_ef st_new bd_ef bs_ef bs_ef0 bx_gr ne_gr bx_ca ne_ca eq_caX eq_grX

theorem step_append_eqS {P : Program} {w : World} {ops : Array Oper} {o : Oper} {a : Act} {K : Act → World → Prop} {Q : Exit → Act → World → Prop} {E : Prop} (hgd : o.guard = none) (s x : Operand) (t tn : TypeId)
    (ho : o.op = .call { callee := .builtin .append, args := #[s, x], argTypes := #[t, tn] }) (vs vx : Value) (hs : a.eval s = vs) (hx : a.eval x = vx)
    (v' : Value) (w' : World) (hr : (Builtin.append_ #[t, tn] o.type #[vs, vx]).run P w = .ok v' w') (h : K (a.put o.dst v') w') :
    if Region.wanted o (yielded ops a.tmps) = true then Oper.wp P o a w K Q else E := by
  have hw : Region.wanted o (yielded ops a.tmps) = true := by simp [Region.wanted, hgd]
  rw [if_pos hw]
  exact Lib.wp_append_run w s x t tn ho vs vx hs hx v' w' hr h
theorem ef_full (W : World) (g n c k : Nat) (i : Int) (hi : i = (k : Int)) (hk : k ≤ n) (hc : n ≤ c) : (Instr.slice 27 (.slice (some ⟨g, 0, none⟩) n c) none (some (.int .i64 i)) (some (.int .i64 i))).run Try.prog W = .ok (.slice (some ⟨g, 0, none⟩) k k) W := by
  subst hi
  have hz := LE_ok.sz W
  have h2 : (k : Int) ≤ (c : Int) := by omega
  have hu := run_underlying (P := Try.prog) (w := W) LE_ok.und
  simp only [show LE.S = 27 from rfl] at hu
  by_cases hk0 : k = 0
  · subst hk0
    simp [Instr.slice, run_underlying Try.underlying27, Instr.sliceBounds, run_sliceBound]
  · simp [Instr.slice, run_underlying Try.underlying27, Instr.sliceBounds, run_sliceBound, h2, Addr.add]
theorem run_append_cut (w : World) (g k cap base : Nat) (l : List Ef) (ho : OwnS LE w base (.slice (some ⟨g, 0, none⟩) l.length cap) l) (hk : k < l.length) (A : Option Addr) (cA : Nat) (hA : SlP LE w A cA (l.drop (k + 1))) (hlen : l.length ≤ 100000) (ty : TypeId) :
    ∃ a2 c2 w', (Builtin.append_ #[27, 27] ty #[.slice (some ⟨g, 0, none⟩) k k, .slice A (l.drop (k + 1)).length cA]).run Try.prog w = .ok (.slice a2 (l.take k ++ l.drop (k + 1)).length c2) w' ∧ SlP LE w' a2 c2 (l.take k ++ l.drop (k + 1)) ∧ Below w.heap.size w w' ∧ ∀ p, a2 = some p → p.block = g ∨ w.heap.size ≤ p.block := by
  obtain ⟨i0, hi0, hz0, hzs, hzb⟩ := info_parts LE_ok.info
  obtain ⟨a0, c0, e0, hsl⟩ := ho.sl
  injection e0 with e1 _ e2
  subst e1 e2
  have htl : (l.take k).length = k := by rw [List.length_take]; omega
  have hsrc0 : ∀ j u, (cellsG LE (l.take k))[j]? = some u → w.cell? ((⟨g, 0, none⟩ : Addr).add j) = some u := by
    intro j u hj
    rw [← cellsG_take LE_ok l k (by omega), List.getElem?_take] at hj
    split at hj
    · obtain ⟨b, o, e, _, hc⟩ := hsl.cell (by intro e; subst e; simp at hk)
      injection e with e
      injection e with e3 e4
      subst e3 e4
      rw [Addr.add_lit]
      exact hc j u hj
    · cases hj
  generalize hys : l.drop (k + 1) = ys at *
  cases hy0 : ys with
  | nil =>
    subst hy0
    have hsrc : Src Try.prog i0.size 27 (.slice A 0 cA) 0 [] w := by
      cases A with
      | none => exact Src.ofNil w Try.underlying27 cA
      | some ad => exact Src.ofSlice w Try.underlying27 ad 0 cA [] (by simp) (fun j u h => by simp at h) (fun u h => by cases h)
    have hr := run_append_room_src w 27 27 ty 55 i0 Try.underlying27 hi0 g 0 k k _ 0 [] hsrc (by omega) (by simp) (by simp)
    refine ⟨some ⟨g, 0, none⟩, k, w, ?_, ⟨by simp [htl], by rw [List.append_nil, htl]; have := hsl.len; omega, fun hne => ⟨g, 0, rfl, ?_, fun j u hj => ?_⟩⟩, Below.refl _ _, fun p hp => .inl (by injection hp with hp; rw [← hp])⟩
    · rw [List.append_nil, htl]
      exact hr
    · exact (rowS_at ho _ rfl).2
    · rw [List.append_nil] at hj
      have := hsrc0 j u hj
      rwa [Addr.add_lit] at this
  | cons y r =>
    have hne : ys ≠ [] := by rw [hy0]; simp
    rw [← hy0]
    obtain ⟨b, o, rfl, _, hc⟩ := hA.cell hne
    have hll : (l.take k ++ ys).length ≤ l.length := by rw [← hys, List.length_append, List.length_take, List.length_drop]; omega
    have hys1 : 0 < ys.length := List.length_pos_iff.2 hne
    obtain ⟨v', w', hr, h1, h2⟩ := run_append_arg_grows w 27 ty 55 i0 _ LE.n LE.bytes Try.underlying27 hi0 hz0 hzs hzb LE_ok.zs LE_ok.pos ⟨g, 0, none⟩ k k (cellsG LE (l.take k)) (by rw [cellsG_len LE_ok, htl]) hsrc0 ⟨b, o, none⟩ ys.length cA (cellsG LE ys) (cellsG_len LE_ok ys) (fun j u hj => by rw [Addr.add_lit]; exact hc j u hj) (by omega) (by unfold maxLen; rw [List.length_append, htl] at hll; omega) (by rw [List.length_append, htl] at hll; have : (k + ys.length) * LE.bytes ≤ 100000 * 10000 := Nat.mul_le_mul (by omega) LE_ok.few; omega)
    have h3 : OwnS LE w' w.heap.size v' (l.take k ++ ys) := by
      unfold OwnS
      rw [cellsG_append, List.length_append, htl]
      exact h1
    obtain ⟨a2, c2, e2, hs2⟩ := h3.sl
    subst e2
    exact ⟨a2, c2, w', hr, hs2, below_grown_none h2, fun p hp => .inr (rowS_at h3 p hp).1⟩
/-- A state without one of its effects. -/
def stE (s : StR) (l : List Ef) (a : Option Addr) (c : Nat) : StR := ⟨s.waves, s.mans, s.limit, s.doors, s.da, s.dc, s.now, s.nb, s.nk, s.ords, s.oa, s.oc, s.bats, s.ba, s.bc, l, a, c⟩
/-- A state with one of its orders in another phase. -/
def phO (x : OdR) (p : Int) : OdR := ⟨atPhase x.o p, x.a, x.c⟩
def stO (s : StR) (L : List OdR) : StR := ⟨s.waves, s.mans, s.limit, s.doors, s.da, s.dc, s.now, s.nb, s.nk, L, s.oa, s.oc, s.bats, s.ba, s.bc, s.effs, s.ea, s.ec⟩
theorem cut_state {W4 W6 : World} {B k : Nat} {r s : StR} {a2 : Option Addr} {c2 : Nat} {tl : List Ef} (hO : OwnRows W4 B (rowsOf s)) (hs : s.st = r.st) (hz : SizesS s) (hm : Small r) (b : Below W4.heap.size W4 W6) (R6 : Row W6 W4.heap.size 29 (stC s)) (hT : SlP LE W6 a2 c2 tl) (ha : ∀ p, a2 = some p → p.block ≠ W4.heap.size) (hTl : s.effs.take k ++ s.effs.drop (k + 1) = tl) :
    Row (W6.setCell ⟨W4.heap.size, 11, none⟩ (.slice a2 tl.length c2)) W4.heap.size 29 (stC (stE s tl a2 c2)) ∧ StP (W6.setCell ⟨W4.heap.size, 11, none⟩ (.slice a2 tl.length c2)) (stE s tl a2 c2) ∧ FewS (stE s tl a2 c2) ∧ (stE s tl a2 c2).st = dropEf r.st k := by
  have R7 : Row (W6.setCell ⟨W4.heap.size, 11, none⟩ (.slice a2 tl.length c2)) W4.heap.size 29 (stC (stE s tl a2 c2)) := R6.set 11 _
  have b7 : Below W4.heap.size W4 (W6.setCell ⟨W4.heap.size, 11, none⟩ (.slice a2 tl.length c2)) := b.setCell (p := ⟨W4.heap.size, 11, none⟩) (Nat.le_refl _) _
  have P7 := stP_of_rows hz (hO.below b7)
  have T7 : SlP LE (W6.setCell ⟨W4.heap.size, 11, none⟩ (.slice a2 tl.length c2)) a2 c2 tl := hT.same (by simp [World.setCell]) (fun _ x hx => setCell_else W6 11 _ (ha x hx))
  have hmem : ∀ e ∈ tl, e ∈ s.effs := by
    intro e he
    rw [← hTl] at he
    rcases List.mem_append.1 he with he | he
    · exact List.mem_of_mem_take he
    · exact List.mem_of_mem_drop he
  have hlen : tl.length ≤ s.effs.length := by rw [← hTl, List.length_append, List.length_take, List.length_drop]; omega
  have hef : s.effs = r.effs := congrArg St.effs hs
  have hor : odsOf s.ords = odsOf r.ords := congrArg St.ords hs
  have hba : btsOf s.bats = btsOf r.bats := congrArg St.bats hs
  have l1 : s.ords.length = r.ords.length := by have := congrArg List.length hor; simpa [odsOf] using this
  have l2 : s.bats.length = r.bats.length := by have := congrArg List.length hba; simpa [btsOf] using this
  refine ⟨R7, ⟨P7.doors, P7.dlen, P7.ords, P7.bats, ⟨T7, fun e he => P7.effs.each e (hmem e he)⟩⟩, ⟨?_, ?_, ?_⟩, ?_⟩
  · show s.ords.length ≤ _
    rw [l1]
    exact hm.few.1
  · show s.bats.length ≤ _
    rw [l2]
    exact hm.few.2.1
  · show tl.length ≤ _
    refine Nat.le_trans hlen ?_
    rw [hef]
    exact hm.few.2.2
  · rw [← hs]
    subst hTl
    rfl
theorem owns_effs {w : World} {base : Nat} {s : StR} (h : OwnRows w base (rowsOf s)) : OwnS LE w base (.slice s.ea s.effs.length s.ec) s.effs := h.owns (rdS LE s.ea s.ec s.effs) (by simp [rowsOf])
theorem owns_ords {w : World} {base : Nat} {s : StR} (h : OwnRows w base (rowsOf s)) : OwnS LO w base (.slice s.oa s.ords.length s.oc) s.ords := h.owns (rdS LO s.oa s.oc s.ords) (by simp [rowsOf])
theorem owns_bats {w : World} {base : Nat} {s : StR} (h : OwnRows w base (rowsOf s)) : OwnS LB w base (.slice s.ba s.bats.length s.bc) s.bats := h.owns (rdS LB s.ba s.bc s.bats) (by simp [rowsOf])
theorem owns_doors {w : World} {base : Nat} {s : StR} (h : OwnRows w base (rowsOf s)) : OwnI w base (.slice s.da s.doors.length s.dc) s.doors := h.owns (rdI s.da s.dc s.doors) (by simp [rowsOf])
theorem next_phase {p : Int} (h1 : 1 ≤ p) (h2 : p ≤ 12) : (p = 1 ∧ p % 12 + 1 = 2) ∨ (p = 2 ∧ p % 12 + 1 = 3) ∨ (p = 3 ∧ p % 12 + 1 = 4) ∨ (p = 4 ∧ p % 12 + 1 = 5) ∨ (p = 5 ∧ p % 12 + 1 = 6) ∨ (p = 6 ∧ p % 12 + 1 = 7) ∨ (p = 7 ∧ p % 12 + 1 = 8) ∨ (p = 8 ∧ p % 12 + 1 = 9) ∨ (p = 9 ∧ p % 12 + 1 = 10) ∨ (p = 10 ∧ p % 12 + 1 = 11) ∨ (p = 11 ∧ p % 12 + 1 = 12) ∨ (p = 12 ∧ p % 12 + 1 = 1) := by
  have h : p = 1 ∨ p = 2 ∨ p = 3 ∨ p = 4 ∨ p = 5 ∨ p = 6 ∨ p = 7 ∨ p = 8 ∨ p = 9 ∨ p = 10 ∨ p = 11 ∨ p = 12 := by omega
  rcases h with rfl | rfl | rfl | rfl | rfl | rfl | rfl | rfl | rfl | rfl | rfl | rfl <;> decide
theorem put_breaks {r s : StR} (hs : s.st = r.st) (hr : rightS r.st = true) {q : Nat} (hq : q < s.ords.length) (h2 : rightS (stO s (s.ords.set q (phO s.ords[q] (s.ords[q].o.phase % 12 + 1)))).st = true) : s.ords[q].o.phase = 11 := by
  rw [← hs] at hr
  have hq' : q < s.st.ords.length := by show q < (odsOf s.ords).length; simpa [odsOf] using hq
  have hg : s.st.ords[q] = s.ords[q].o := List.getElem_map ..
  have e : (stO s (s.ords.set q (phO s.ords[q] (s.ords[q].o.phase % 12 + 1)))).st = withO s.st q (atPhase s.st.ords[q] (s.st.ords[q].phase % 12 + 1)) := by
    rw [hg]
    have e2 : odsOf (s.ords.set q (phO s.ords[q] (s.ords[q].o.phase % 12 + 1))) = (odsOf s.ords).set q (atPhase s.ords[q].o (s.ords[q].o.phase % 12 + 1)) := by
      unfold odsOf
      rw [List.map_set]
      rfl
    show St.mk _ _ _ _ _ _ _ (odsOf (s.ords.set q _)) _ _ = _
    rw [e2]
    rfl
  rw [e] at h2
  have := break_phase hr hq' h2
  rwa [hg] at this
/-- One of the orders in the next phase. -/
theorem next_state {W9 : World} {B q : Nat} {r s : StR} (hO : OwnRows W9 B (rowsOf s)) (hs : s.st = r.st) (hz : SizesS s) (hm : Small r) (hr : rightS r.st = true) (hqr : q < r.ords.length) :
    ∃ g p p', s.oa = some ⟨g, 0, none⟩ ∧ B ≤ g ∧ g < W9.heap.size ∧ s.ords.length ≤ s.oc ∧ q < s.ords.length ∧ r.ords[q].o.phase = p ∧ ((p = 1 ∧ p' = 2) ∨ (p = 2 ∧ p' = 3) ∨ (p = 3 ∧ p' = 4) ∨ (p = 4 ∧ p' = 5) ∨ (p = 5 ∧ p' = 6) ∨ (p = 6 ∧ p' = 7) ∨ (p = 7 ∧ p' = 8) ∨ (p = 8 ∧ p' = 9) ∨ (p = 9 ∧ p' = 10) ∨ (p = 10 ∧ p' = 11) ∨ (p = 11 ∧ p' = 12) ∨ (p = 12 ∧ p' = 1)) ∧ (∀ W, Below W9.heap.size W9 W → W.cell? ⟨g, q * 10 + 6, none⟩ = some (.int .i64 p) ∧ W.frozen? ⟨g, q * 10 + 6, none⟩ = false) ∧
      ∀ W, Below W9.heap.size W9 W → ∃ s2 : StR, stC s2 = stC s ∧ StP (W.setCell ⟨g, q * 10 + 6, none⟩ (.int .i64 p')) s2 ∧ FewS s2 ∧ (rightS s2.st = true → p = 11) := by
  have hor : odsOf s.ords = odsOf r.ords := congrArg St.ords hs
  have hba : btsOf s.bats = btsOf r.bats := congrArg St.bats hs
  have hef : s.effs = r.effs := congrArg St.effs hs
  have l1 : s.ords.length = r.ords.length := by have := congrArg List.length hor; simpa [odsOf] using this
  have l2 : s.bats.length = r.bats.length := by have := congrArg List.length hba; simpa [btsOf] using this
  have hq : q < s.ords.length := by omega
  have hpe : s.ords[q].o.phase = r.ords[q].o.phase := by
    have h1 : (odsOf s.ords)[q]? = (odsOf r.ords)[q]? := by rw [hor]
    unfold odsOf at h1
    rw [List.getElem?_map, List.getElem?_map, List.getElem?_eq_getElem hq, List.getElem?_eq_getElem hqr] at h1
    injection h1 with h1
    rw [show s.ords[q].o = r.ords[q].o from h1]
  have hrange := rightO_phase ((hung_of hr).right r.ords[q].o (List.mem_map_of_mem (List.getElem_mem hqr)))
  have hown := owns_ords hO
  obtain ⟨g, cap, e, h1, h2, h3, h4, _, _⟩ := hown.at LO_ok q hq
  injection e with e1 _ e2
  refine ⟨g, r.ords[q].o.phase, r.ords[q].o.phase % 12 + 1, e1, h1, h2, by omega, hq, rfl, next_phase hrange.1 hrange.2, fun W b => ?_, fun W b => ?_⟩
  · obtain ⟨g', cap', e', _, _, _, _, hc, hf⟩ := (hown.below b).at LO_ok q hq
    injection e' with e1' _ _
    rw [e1] at e1'
    injection e1' with e1'
    injection e1' with e1' _
    subst e1'
    exact ⟨by rw [← hpe]; exact hc 6 _ rfl, hf _⟩
  · refine ⟨stO s (s.ords.set q (phO s.ords[q] (s.ords[q].o.phase % 12 + 1))), ?_, ?_, ⟨?_, ?_, ?_⟩, fun h => by rw [← hpe]; exact put_breaks hs hr hq h⟩
    · show #[_, _, _, _, _, _, _, _, _, Value.slice _ (s.ords.set q _).length _, _, _] = _
      rw [List.length_set]
      rfl
    · have hO2 := hO.below b
      have hw : OwnS LO W B (.slice (some ⟨g, 0, none⟩) s.ords.length s.oc) s.ords := by have := owns_ords hO2; rwa [e1] at this
      have hset := hw.set LO_ok q hq (phO s.ords[q] (s.ords[q].o.phase % 12 + 1)) 6 (.int .i64 (r.ords[q].o.phase % 12 + 1)) (by decide) (by rw [← hpe]; rfl)
      have hO3 := hO2.put 1 (by simp [rowsOf]) (rdS LO s.oa s.oc (s.ords.set q (phO s.ords[q] (s.ords[q].o.phase % 12 + 1)))) rfl (w' := W.setCell ⟨g, q * 10 + 6, none⟩ (.int .i64 (r.ords[q].o.phase % 12 + 1))) (by simp [World.setCell]) (by
        have h5 : OwnS LO (W.setCell ⟨g, q * 10 + 6, none⟩ (.int .i64 (r.ords[q].o.phase % 12 + 1))) B (.slice s.oa (s.ords.set q (phO s.ords[q] (s.ords[q].o.phase % 12 + 1))).length s.oc) (s.ords.set q (phO s.ords[q] (s.ords[q].o.phase % 12 + 1))) := by
          rw [List.length_set, e1]
          exact hset
        exact h5) ⟨g, 0, none⟩ e1 (fun k hk => setCell_else W _ _ hk)
      have hmap : (s.ords.set q (phO s.ords[q] (s.ords[q].o.phase % 12 + 1))).map rdL = s.ords.map rdL := by
        rw [List.map_set]
        have : rdL (phO s.ords[q] (s.ords[q].o.phase % 12 + 1)) = (s.ords.map rdL)[q]'(by simpa using hq) := by rw [List.getElem_map]; rfl
        rw [this, List.set_getElem_self]
      have hrows : (rowsOf s).set 1 (rdS LO s.oa s.oc (s.ords.set q (phO s.ords[q] (s.ords[q].o.phase % 12 + 1)))) = rowsOf (stO s (s.ords.set q (phO s.ords[q] (s.ords[q].o.phase % 12 + 1)))) := by
        show _ = [_, _] ++ (s.ords.set q _).map rdL ++ _ ++ _ ++ _
        rw [hmap]
        rfl
      rw [hrows] at hO3
      refine stP_of_rows ⟨hz.doors, fun x hx => ?_, hz.bats, hz.effs⟩ hO3
      rcases List.mem_or_eq_of_mem_set hx with hx | rfl
      · exact hz.ords x hx
      · exact hz.ords s.ords[q] (List.getElem_mem hq)
    · show (s.ords.set q _).length ≤ _
      rw [List.length_set, l1]
      exact hm.few.1
    · show s.bats.length ≤ _
      rw [l2]
      exact hm.few.2.1
    · show s.effs.length ≤ _
      rw [hef]
      exact hm.few.2.2
theorem clamp_of (at_ : Int) (n : Nat) (hn : 0 < n) : ∃ k : Nat, k < n ∧ max 0 (min at_ ((n : Int) - 1)) = (k : Int) := by
  refine ⟨(max 0 (min at_ ((n : Int) - 1))).toNat, ?_, ?_⟩
  · omega
  · omega
end

end Go.Proofs.Ytaghbfnikcldiaa
