/- States: held against each other, coming in, made; what follows of their rules. -/
import Derived.Test.YtaghbfnikcldiaaMgState
import Derived.Test.YtaghbfnikcldiaaMgOrders
import Derived.Test.YtaghbfnikcldiaaMgEffects
import Derived.Test.YtaghbfnikcldiaaDyLeaf
import Derived.Test.YtaghbfnikcldiaaDyRefDoors
import Derived.Test.YtaghbfnikcldiaaMgBatches
import Derived.Test.YtaghbfnikcldiaaRows
import Derived.OpenShut
import Derived.ChangeSlices
namespace Go.Proofs.Ytaghbfnikcldiaa

/- StSame: What the document's Same of layer 15 answers: two states held against each other. -/
section
set_option maxRecDepth 100000
open Go.RowKit Go.ChangeShapes Go.WideShapes Go.ChangeAt
attribute [local go_sem ↓] ldOr stOr alOr bxOr bdOr ldBa stBa alBa bxBa bdBa ldSt stSt alSt bxSt bdSt ldEf stEf alEf bxEf eqEf bdEf bsEf ldGr bxGr eqGr ldCa bxCa eqCa
attribute [local go_sem] al_or bx_or st_ornew bd_or al_ba bx_ba st_banew bd_ba al_sta bx_sta st_stnew bd_sta al_ef bx_ef st_new bd_ef bs_ef bs_ef0 bx_gr ne_gr bx_ca ne_ca eq_caX

/-- Lists held against each other, one by one. -/
def sameBy {α : Type} (q : α → α → Bool) : List α → List α → Bool
  | [], [] => true
  | x :: a, y :: b => q x y && sameBy q a b
  | _, _ => false
theorem sameBy_iff {α : Type} {q : α → α → Bool} (hq : ∀ x y, q x y = true ↔ x = y) : ∀ (a b : List α), sameBy q a b = true ↔ a = b
  | [], [] => by simp [sameBy]
  | [], _ :: _ => by simp [sameBy]
  | _ :: _, [] => by simp [sameBy]
  | x :: a, y :: b => by
    simp only [sameBy, Bool.and_eq_true, hq, sameBy_iff hq a b, List.cons.injEq]
theorem sameBy_len {α : Type} {q : α → α → Bool} : ∀ {a b : List α}, a.length ≠ b.length → sameBy q a b = false
  | [], [], h => absurd rfl h
  | [], _ :: _, _ => rfl
  | _ :: _, [], _ => rfl
  | x :: a, y :: b, h => by
    simp only [List.length_cons] at h
    rw [sameBy, sameBy_len (by omega), Bool.and_false]
theorem sameBy_step {α : Type} {q : α → α → Bool} {a b : List α} {k : Nat} (h1 : k < a.length) (h2 : k < b.length) : sameBy q (a.drop k) (b.drop k) = (q a[k] b[k] && sameBy q (a.drop (k + 1)) (b.drop (k + 1))) := by
  rw [List.drop_eq_getElem_cons h1, List.drop_eq_getElem_cons h2, sameBy]
def sameI : List Int → List Int → Bool := sameBy fun x y => x == y
def sameOs : List OdR → List OdR → Bool := sameBy fun x y => sameO x.o y.o
def sameBs : List BtR → List BtR → Bool := sameBy fun x y => sameBt x.b y.b
theorem sameBy_map {α β : Type} (f : α → β) (q : β → β → Bool) : ∀ (a b : List α), sameBy (fun x y => q (f x) (f y)) a b = sameBy q (a.map f) (b.map f)
  | [], [] => rfl
  | [], _ :: _ => rfl
  | _ :: _, [] => rfl
  | x :: a, y :: b => by
    simp only [sameBy, List.map_cons, sameBy_map f q a b]
theorem sameI_iff (a b : List Int) : sameI a b = true ↔ a = b := sameBy_iff (fun x y => by simp) a b
theorem sameOs_iff (a b : List OdR) : sameOs a b = true ↔ odsOf a = odsOf b := by
  show sameBy (fun x y : OdR => sameO x.o y.o) a b = true ↔ _
  rw [sameBy_map (fun x : OdR => x.o) sameO, sameBy_iff sameO_iff]
  rfl
theorem sameBs_iff (a b : List BtR) : sameBs a b = true ↔ btsOf a = btsOf b := by
  show sameBy (fun x y : BtR => sameBt x.b y.b) a b = true ↔ _
  rw [sameBy_map (fun x : BtR => x.b) sameBt, sameBy_iff sameBt_iff]
  rfl
def sameS (a b : StR) : Bool :=
  capsEq a.waves b.waves && (capsEq a.mans b.mans && ((a.limit == b.limit) && (sameI a.doors b.doors && ((a.now == b.now) && ((a.nb == b.nb) && ((a.nk == b.nk) && (sameE a.effs b.effs && (sameOs a.ords b.ords && sameBs a.bats b.bats))))))))
theorem sameS_iff (a b : StR) : sameS a b = true ↔ a.st = b.st := by
  unfold sameS StR.st
  simp only [Bool.and_eq_true, capsEq_iff, beq_iff_eq, sameI_iff, sameE_iff, sameOs_iff, sameBs_iff, St.mk.injEq]
  constructor
  · rintro ⟨h1, h2, h3, h4, h5, h6, h7, h8, h9, h10⟩
    exact ⟨h1, h2, h3, h4, h5, h6, h7, h9, h10, h8⟩
  · rintro ⟨h1, h2, h3, h4, h5, h6, h7, h9, h10, h8⟩
    exact ⟨h1, h2, h3, h4, h5, h6, h7, h8, h9, h10⟩

theorem IntsP.at {w : World} {a : Option Addr} {cap : Nat} {l : List Int} (h : IntsP w a cap l) (k : Nat) (hk : k < l.length) : ∃ b o, a = some ⟨b, o, none⟩ ∧ b < w.heap.size ∧ w.cell? ⟨b, o + k, none⟩ = some (.int .i64 l[k]) := by
  obtain ⟨b, o, e, hb, hc⟩ := h.cell (by intro e; subst e; simp at hk)
  exact ⟨b, o, e, hb, hc k _ (List.getElem?_eq_getElem hk)⟩

set_option maxHeartbeats 2000000 in
theorem refSameI_any (a1 a2 : Option Addr) (c1 c2 : Nat) (l m : List Int) (w : World) (h1 : IntsP w a1 c1 l) (h2 : IntsP w a2 c2 m) (hl : l.length ≤ maxLen) (_hm : m.length ≤ maxLen) :
    Calls Try.prog 23 #[.slice a1 l.length c1, .slice a2 m.length c2] w (Tell (sameI l m) w) := by
  have H1 := Lib.hid h1
  have H2 := Lib.hid h2
  have p1 := h1.cap
  have p2 := h2.cap
  unfold maxLen at hl
  clear h1 h2
  by_cases hq : l.length = m.length
  · have hqi : ((l.length : Int) != (m.length : Int)) = false := by simp; omega
    have HQ := Lib.hid hq
    clear hq
    go_enter Try.func23, Try.ntmps23
    go_wp2_with fail
    go_loopw [13] (fun i wr => ∃ (k : Nat), k ≤ l.length ∧ i = .int .i64 k ∧ Hid (sameI l m = sameI (l.drop k) (m.drop k)) ∧ Below w.heap.size w wr) (fun i _ => l.length - (intOf i).toNat)
    case atStart => exact ⟨0, Nat.zero_le _, rfl, Lib.hid rfl, Below.refl _ _⟩
    case round =>
      obtain ⟨k, hk, rfl, HF, hbw⟩ := hrel
      by_cases hlt : k < l.length
      · have hlt2 : k < m.length := by have := HQ.out; omega
        obtain ⟨b, o, rfl, hb, e1⟩ := (H1.out.below hbw).at k hlt
        obtain ⟨b2, o2, rfl, hb2, e2⟩ := (H2.out.below hbw).at k hlt2
        have HD := Lib.hid (show sameI (l.drop k) (m.drop k) = ((l[k] == m[k]) && sameI (l.drop (k + 1)) (m.drop (k + 1))) from sameBy_step hlt hlt2)
        generalize l[k] = x at *
        generalize m[k] = y at *
        have f1 : ∀ q : Far wr, (farOf wr q).cell? ⟨b, o + k, none⟩ = some (.int .i64 x) := far_cell hb e1
        have f2 : ∀ q : Far wr, (farOf wr q).cell? ⟨b2, o2 + k, none⟩ = some (.int .i64 y) := far_cell hb2 e2
        cases hx : (x == y) with
        | false =>
          have hxd : (x != y) = true := by simp only [bne, hx]; rfl
          have HX := Lib.hid (show sameI l m = false by rw [HF.out, HD.out, hx, Bool.false_and])
          go_wp2_with fail
          refine wp_region_far (by kernel_rfl) (by kernel_rfl) ?_
          repeat (first | go_big_quiet_step (fail) | quiet_step (fail))
          refine wpQuiet_nil ?_
          intro _ hw'
          obtain ⟨q, hw''⟩ := hw'
          subst hw''
          have hb5 := hbw.trans ((far_below wr q).mono hbw.size)
          go_wp2_with fail
          go_ret
          exact ⟨by rw [HX.out]; try rfl, hb5⟩
        | true =>
          have hxd : (x != y) = false := by simp only [bne, hx]; rfl
          have HN := Lib.hid (show sameI l m = sameI (l.drop (k + 1)) (m.drop (k + 1)) by rw [HF.out, HD.out, hx, Bool.true_and])
          go_wp2_with fail
          refine wp_region_far (by kernel_rfl) (by kernel_rfl) ?_
          repeat (first | go_big_quiet_step (fail) | quiet_step (fail))
          refine wpQuiet_nil ?_
          intro _ hw'
          obtain ⟨q, hw''⟩ := hw'
          subst hw''
          have hb5 := hbw.trans ((far_below wr q).mono hbw.size)
          go_wp2_with fail
          go_roundw
          case rel => exact ⟨k + 1, by omega, by go_num, HN, hb5⟩
          case measure => simp [intOf]; omega
      · have HX := Lib.hid (show sameI l m = true by rw [HF.out, List.drop_eq_nil_of_le (by omega), List.drop_eq_nil_of_le (by have := HQ.out; omega)]; rfl)
        go_wp2_with fail
        go_ret
        exact ⟨by rw [HX.out]; try rfl, hbw⟩
  · have hqi : ((l.length : Int) != (m.length : Int)) = true := by simp; omega
    have HX := Lib.hid (show sameI l m = false from sameBy_len hq)
    clear hq
    go_enter Try.func23, Try.ntmps23
    go_wp2_with fail
    go_ret
    exact ⟨by rw [HX.out]; try rfl, Below.refl _ _⟩

/-- Two states that came in, each in a variable. -/
structure TwI (w : World) (r s : StR) (W : World) : Prop where
  one : Row W w.heap.size 29 (stC r)
  two : Row W (w.heap.size + 1) 29 (stC s)
  st : StP W r
  su : StP W s
  low : Below w.heap.size w W
theorem TwI.below {w W W' : World} {r s : StR} (h : TwI w r s W) (b : Below W.heap.size W W') : TwI w r s W' := ⟨h.one.below b, h.two.below b, h.st.below b, h.su.below b, h.low.trans (b.mono h.low.size)⟩
theorem TwI.begin (w : World) (r s : StR) (h : StP w r) (hs : StP w s) : TwI w r s ((w.alloc (.cells (stC r) 29)).alloc (.cells (stC s) 29)) := by
  have F := FoI.begin w r h 29 (stC s)
  exact ⟨F.box, F.res, F.st, hs.below F.low, F.low⟩

set_option maxHeartbeats 8000000 in
theorem refSameS_any (r s : StR) (w : World) (h : StP w r) (hs : StP w s) : Calls Try.prog 12 #[stV r, stV s] w (Tell (sameS r s) w) := by
  have I := Lib.hid (TwI.begin w r s h hs)
  have HE := Lib.hid (show sameS r s = (capsEq r.waves s.waves && (capsEq r.mans s.mans && ((r.limit == s.limit) && (sameI r.doors s.doors && ((r.now == s.now) && ((r.nb == s.nb) && ((r.nk == s.nk) && (sameE r.effs s.effs && (sameOs r.ords s.ords && sameBs r.bats s.bats))))))))) from rfl)
  have hdl := h.dlen
  have hds := hs.dlen
  have p1 := h.ords.sl.cap
  have p2 := h.bats.sl.cap
  have p3 := hs.ords.sl.cap
  have p4 := hs.bats.sl.cap
  have p5 := h.ords.sl.len
  have p6 := h.bats.sl.len
  unfold maxLen at p5 p6
  have CD := Lib.hid (fun W hW hX => refSameI_any r.da s.da r.dc s.dc r.doors s.doors W hW hX hdl hds)
  have CF := Lib.hid (fun W hW hX => obRefSame_any r.ea s.ea r.ec s.ec r.effs s.effs W hW hX)
  have c := I.out.one.st
  obtain ⟨⟨c0, c1, c2, c3, c4, c5⟩, c6, c7, c8, c9, c10, c11⟩ := c
  have d := I.out.two.st
  obtain ⟨⟨d0, d1, d2, d3, d4, d5⟩, d6, d7, d8, d9, d10, d11⟩ := d
  have l1 := ld_caAt c0 c1
  have l2 := ld_caAt c2 c3
  have l3 := ld_caAt d0 d1
  have l4 := ld_caAt d2 d3
  clear h hs c0 c1 c2 c3 d0 d1 d2 d3
  go_enter Try.func12, Try.ntmps12
  cases k1 : capsEq r.waves s.waves with
  | false =>
    have HX := Lib.hid (show sameS r s = false by rw [HE.out]; simp only [k1, Bool.false_and])
    go_wp2_with fail
    go_ret
    exact ⟨by rw [HX.out]; try rfl, I.out.low⟩
  | true =>
    cases k2 : capsEq r.mans s.mans with
    | false =>
      have HX := Lib.hid (show sameS r s = false by rw [HE.out]; simp only [k1, k2, Bool.false_and, Bool.and_false])
      go_wp2_with fail
      go_ret
      exact ⟨by rw [HX.out]; try rfl, I.out.low⟩
    | true =>
      cases k3 : (r.limit == s.limit) with
      | false =>
        have k3d : (r.limit != s.limit) = true := by simp only [bne, k3]; rfl
        have HX := Lib.hid (show sameS r s = false by rw [HE.out]; simp only [k1, k2, k3, Bool.false_and, Bool.and_false])
        go_wp2_with fail
        go_ret
        exact ⟨by rw [HX.out]; try rfl, I.out.low⟩
      | true =>
        have k3d : (r.limit != s.limit) = false := by simp only [bne, k3]; rfl
        go_wp2_with fail
        generalize (w.alloc (.cells (stC r) 29)).alloc (.cells (stC s) 29) = W0 at *
        refine (CD.out _ I.out.st.doors I.out.su.doors).mono ?_
        rintro e w1 ⟨rfl, b1⟩
        replace I := Lib.hid (I.out.below b1)
        clear b1 c4 c5 c6 c7 c8 c9 c10 c11 d4 d5 d6 d7 d8 d9 d10 d11 l1 l2 l3 l4 CD
        have c := I.out.one.st
        obtain ⟨_, c6, c7, c8, c9, c10, c11⟩ := c
        have d := I.out.two.st
        obtain ⟨_, d6, d7, d8, d9, d10, d11⟩ := d
        cases k4 : sameI r.doors s.doors with
        | false =>
          have HX := Lib.hid (show sameS r s = false by rw [HE.out]; simp only [k1, k2, k3, k4, Bool.false_and, Bool.and_false])
          go_wp2_with fail
          go_ret
          exact ⟨by rw [HX.out]; try rfl, I.out.low⟩
        | true =>
          cases k5 : (r.now == s.now) with
          | false =>
            have k5d : (r.now != s.now) = true := by simp only [bne, k5]; rfl
            have HX := Lib.hid (show sameS r s = false by rw [HE.out]; simp only [k1, k2, k3, k4, k5, Bool.false_and, Bool.and_false])
            go_wp2_with fail
            go_ret
            exact ⟨by rw [HX.out]; try rfl, I.out.low⟩
          | true =>
            have k5d : (r.now != s.now) = false := by simp only [bne, k5]; rfl
            cases k6 : (r.nb == s.nb) with
            | false =>
              have k6d : (r.nb != s.nb) = true := by simp only [bne, k6]; rfl
              have HX := Lib.hid (show sameS r s = false by rw [HE.out]; simp only [k1, k2, k3, k4, k5, k6, Bool.false_and, Bool.and_false])
              go_wp2_with fail
              go_ret
              exact ⟨by rw [HX.out]; try rfl, I.out.low⟩
            | true =>
              have k6d : (r.nb != s.nb) = false := by simp only [bne, k6]; rfl
              cases k7 : (r.nk == s.nk) with
              | false =>
                have k7d : (r.nk != s.nk) = true := by simp only [bne, k7]; rfl
                have HX := Lib.hid (show sameS r s = false by rw [HE.out]; simp only [k1, k2, k3, k4, k5, k6, k7, Bool.false_and, Bool.and_false])
                go_wp2_with fail
                go_ret
                exact ⟨by rw [HX.out]; try rfl, I.out.low⟩
              | true =>
                have k7d : (r.nk != s.nk) = false := by simp only [bne, k7]; rfl
                by_cases k8 : r.ords.length = s.ords.length
                · have k8d : ((r.ords.length : Int) != (s.ords.length : Int)) = false := by simp; omega
                  by_cases k9 : r.bats.length = s.bats.length
                  · have k9d : ((r.bats.length : Int) != (s.bats.length : Int)) = false := by simp; omega
                    have K8 := Lib.hid k8
                    have K9 := Lib.hid k9
                    clear k8 k9
                    go_wp2_with fail
                    refine (CF.out _ I.out.st.effs.sl I.out.su.effs.sl).mono ?_
                    rintro e w2 ⟨rfl, b2⟩
                    replace I := Lib.hid (I.out.below b2)
                    clear b2 c6 c7 c8 c9 c10 c11 d6 d7 d8 d9 d10 d11 CF
                    cases k10 : sameE r.effs s.effs with
                    | false =>
                      have HX := Lib.hid (show sameS r s = false by rw [HE.out]; simp only [k1, k2, k3, k4, k5, k6, k7, k10, Bool.false_and, Bool.and_false])
                      go_wp2_with fail
                      go_ret
                      exact ⟨by rw [HX.out]; try rfl, I.out.low⟩
                    | true =>
                      have HF := Lib.hid (show sameS r s = (sameOs r.ords s.ords && sameBs r.bats s.bats) by rw [HE.out]; simp only [k1, k2, k3, k4, k5, k6, k7, k10, Bool.true_and])
                      have c9 := I.out.one.st.2.2.2.2.1
                      clear HE k1 k2 k3 k4 k5 k6 k7 k10
                      go_wp2_with fail
                      go_loopw [82] (fun i wr => ∃ (k : Nat), k ≤ r.ords.length ∧ i = .int .i64 k ∧ Hid (sameS r s = (sameOs (r.ords.drop k) (s.ords.drop k) && sameBs r.bats s.bats)) ∧ Hid (TwI w r s wr)) (fun i _ => r.ords.length - (intOf i).toNat)
                      case atStart => exact ⟨0, Nat.zero_le _, rfl, HF, I⟩
                      case round =>
                        clear I HF
                        obtain ⟨k, hk, rfl, HF, HI⟩ := hrel
                        by_cases hlt : k < r.ords.length
                        · have hlt2 : k < s.ords.length := by have := K8.out; omega
                          obtain ⟨b, o, e, hb, _, l1, P1⟩ := HI.out.st.ords.ld k hlt
                          obtain ⟨b2, o2, e2, hb2, _, l2, P2⟩ := HI.out.su.ords.ld k hlt2
                          have HD := Lib.hid (show sameOs (r.ords.drop k) (s.ords.drop k) = (_ && sameOs (r.ords.drop (k + 1)) (s.ords.drop (k + 1))) from sameBy_step hlt hlt2)
                          have f1 : ∀ q : Far wr, LdX 48 (.pointer (some ⟨b, o + k * 10, none⟩)) (farOf wr q) = .ok (.value (orV r.ords[k])) (farOf wr q) := fun q => by
                            obtain ⟨b', o', e', _, _, l', _⟩ := (HI.out.below (far_below wr q)).st.ords.ld k hlt
                            rw [e] at e'
                            injection e' with e'
                            injection e' with e3 e4
                            subst e3 e4
                            exact l'
                          have f2 : ∀ q : Far wr, LdX 48 (.pointer (some ⟨b2, o2 + k * 10, none⟩)) (farOf wr q) = .ok (.value (orV s.ords[k])) (farOf wr q) := fun q => by
                            obtain ⟨b', o', e', _, _, l', _⟩ := (HI.out.below (far_below wr q)).su.ords.ld k hlt2
                            rw [e2] at e'
                            injection e' with e'
                            injection e' with e3 e4
                            subst e3 e4
                            exact l'
                          have g1 : ∀ q : Far wr, (farOf wr q).cell? ⟨w.heap.size, 9, none⟩ = some (.slice (some ⟨b, o, none⟩) r.ords.length r.oc) := fun q => by rw [← e]; exact (HI.out.below (far_below wr q)).one.st.2.2.2.2.1
                          have g2 : ∀ q : Far wr, (farOf wr q).cell? ⟨w.heap.size + 1, 9, none⟩ = some (.slice (some ⟨b2, o2, none⟩) s.ords.length s.oc) := fun q => by rw [← e2]; exact (HI.out.below (far_below wr q)).two.st.2.2.2.2.1
                          clear e e2 l1 l2
                          generalize r.ords[k] = x at *
                          generalize s.ords[k] = y at *
                          have CC := Lib.hid (fun q : Far wr => refOSame_any x.a y.a x.c y.c x.o y.o _ (P1.below (far_below wr q)) (P2.below (far_below wr q)))
                          clear P1 P2
                          cases k1 : sameO x.o y.o with
                          | false =>
                            have HX := Lib.hid (show sameS r s = false by rw [HF.out, HD.out, k1, Bool.false_and]; rfl)
                            rw [k1] at CC
                            go_wp2_with fail
                            refine wp_region_far (by kernel_rfl) (by kernel_rfl) ?_
                            repeat (first | go_big_quiet_step ((go_at_call 25; exact calls_far (CC.out _))) | quiet_step ((go_at_call 25; exact calls_far (CC.out _))))
                            refine wpQuiet_nil ?_
                            intro _ hw'
                            obtain ⟨q, hw''⟩ := hw'
                            subst hw''
                            have J := Lib.hid (HI.out.below (far_below wr q))
                            clear f1 f2 g1 g2 CC
                            go_wp2_with fail
                            go_ret
                            exact ⟨by rw [HX.out]; try rfl, J.out.low⟩
                          | true =>
                            have HN := Lib.hid (show sameS r s = (sameOs (r.ords.drop (k + 1)) (s.ords.drop (k + 1)) && sameBs r.bats s.bats) by rw [HF.out, HD.out, k1, Bool.true_and])
                            rw [k1] at CC
                            go_wp2_with fail
                            refine wp_region_far (by kernel_rfl) (by kernel_rfl) ?_
                            repeat (first | go_big_quiet_step ((go_at_call 25; exact calls_far (CC.out _))) | quiet_step ((go_at_call 25; exact calls_far (CC.out _))))
                            refine wpQuiet_nil ?_
                            intro _ hw'
                            obtain ⟨q, hw''⟩ := hw'
                            subst hw''
                            have J := Lib.hid (HI.out.below (far_below wr q))
                            clear f1 f2 g1 g2 CC
                            go_wp2_with fail
                            go_roundw
                            case rel => exact ⟨k + 1, by omega, by go_num, HN, J⟩
                            case measure => simp [intOf]; omega
                        · have HF2 := Lib.hid (show sameS r s = sameBs r.bats s.bats by rw [HF.out, List.drop_eq_nil_of_le (by omega), List.drop_eq_nil_of_le (by have := K8.out; omega)]; rfl)
                          have c10 := HI.out.one.st.2.2.2.2.2.1
                          clear HF
                          have I := HI
                          clear HI
                          go_wp2_with fail
                          go_loopw [101] (fun i wr => ∃ (k : Nat), k ≤ r.bats.length ∧ i = .int .i64 k ∧ Hid (sameS r s = (sameBs (r.bats.drop k) (s.bats.drop k))) ∧ Hid (TwI w r s wr)) (fun i _ => r.bats.length - (intOf i).toNat)
                          case atStart => exact ⟨0, Nat.zero_le _, rfl, HF2, I⟩
                          case round =>
                            clear I HF2
                            obtain ⟨k, hk, rfl, HF, HI⟩ := hrel
                            by_cases hlt : k < r.bats.length
                            · have hlt2 : k < s.bats.length := by have := K9.out; omega
                              obtain ⟨b, o, e, hb, _, l1, P1⟩ := HI.out.st.bats.ld k hlt
                              obtain ⟨b2, o2, e2, hb2, _, l2, P2⟩ := HI.out.su.bats.ld k hlt2
                              have HD := Lib.hid (show sameBs (r.bats.drop k) (s.bats.drop k) = (_ && sameBs (r.bats.drop (k + 1)) (s.bats.drop (k + 1))) from sameBy_step hlt hlt2)
                              have f1 : ∀ q : Far wr, LdX 53 (.pointer (some ⟨b, o + k * 9, none⟩)) (farOf wr q) = .ok (.value (baV r.bats[k])) (farOf wr q) := fun q => by
                                obtain ⟨b', o', e', _, _, l', _⟩ := (HI.out.below (far_below wr q)).st.bats.ld k hlt
                                rw [e] at e'
                                injection e' with e'
                                injection e' with e3 e4
                                subst e3 e4
                                exact l'
                              have f2 : ∀ q : Far wr, LdX 53 (.pointer (some ⟨b2, o2 + k * 9, none⟩)) (farOf wr q) = .ok (.value (baV s.bats[k])) (farOf wr q) := fun q => by
                                obtain ⟨b', o', e', _, _, l', _⟩ := (HI.out.below (far_below wr q)).su.bats.ld k hlt2
                                rw [e2] at e'
                                injection e' with e'
                                injection e' with e3 e4
                                subst e3 e4
                                exact l'
                              have g1 : ∀ q : Far wr, (farOf wr q).cell? ⟨w.heap.size, 10, none⟩ = some (.slice (some ⟨b, o, none⟩) r.bats.length r.bc) := fun q => by rw [← e]; exact (HI.out.below (far_below wr q)).one.st.2.2.2.2.2.1
                              have g2 : ∀ q : Far wr, (farOf wr q).cell? ⟨w.heap.size + 1, 10, none⟩ = some (.slice (some ⟨b2, o2, none⟩) s.bats.length s.bc) := fun q => by rw [← e2]; exact (HI.out.below (far_below wr q)).two.st.2.2.2.2.2.1
                              clear e e2 l1 l2
                              generalize r.bats[k] = x at *
                              generalize s.bats[k] = y at *
                              have CC := Lib.hid (fun q : Far wr => refBtSame_any x.a y.a x.c y.c x.b y.b _ (P1.below (far_below wr q)) (P2.below (far_below wr q)))
                              clear P1 P2
                              cases k1 : sameBt x.b y.b with
                              | false =>
                                have HX := Lib.hid (show sameS r s = false by rw [HF.out, HD.out, k1, Bool.false_and])
                                rw [k1] at CC
                                go_wp2_with fail
                                refine wp_region_far (by kernel_rfl) (by kernel_rfl) ?_
                                repeat (first | go_big_quiet_step ((go_at_call 26; exact calls_far (CC.out _))) | quiet_step ((go_at_call 26; exact calls_far (CC.out _))))
                                refine wpQuiet_nil ?_
                                intro _ hw'
                                obtain ⟨q, hw''⟩ := hw'
                                subst hw''
                                have J := Lib.hid (HI.out.below (far_below wr q))
                                clear f1 f2 g1 g2 CC
                                go_wp2_with fail
                                go_ret
                                exact ⟨by rw [HX.out]; try rfl, J.out.low⟩
                              | true =>
                                have HN := Lib.hid (show sameS r s = (sameBs (r.bats.drop (k + 1)) (s.bats.drop (k + 1))) by rw [HF.out, HD.out, k1, Bool.true_and])
                                rw [k1] at CC
                                go_wp2_with fail
                                refine wp_region_far (by kernel_rfl) (by kernel_rfl) ?_
                                repeat (first | go_big_quiet_step ((go_at_call 26; exact calls_far (CC.out _))) | quiet_step ((go_at_call 26; exact calls_far (CC.out _))))
                                refine wpQuiet_nil ?_
                                intro _ hw'
                                obtain ⟨q, hw''⟩ := hw'
                                subst hw''
                                have J := Lib.hid (HI.out.below (far_below wr q))
                                clear f1 f2 g1 g2 CC
                                go_wp2_with fail
                                go_roundw
                                case rel => exact ⟨k + 1, by omega, by go_num, HN, J⟩
                                case measure => simp [intOf]; omega
                            · have HX := Lib.hid (show sameS r s = true by rw [HF.out, List.drop_eq_nil_of_le (by omega), List.drop_eq_nil_of_le (by have := K9.out; omega)]; rfl)
                              go_wp2_with fail
                              go_ret
                              exact ⟨by rw [HX.out]; try rfl, HI.out.low⟩
                  · have k9d : ((r.bats.length : Int) != (s.bats.length : Int)) = true := by simp; omega
                    have HX := Lib.hid (show sameS r s = false by rw [HE.out, show sameBs r.bats s.bats = false from sameBy_len k9, Bool.and_false, Bool.and_false, Bool.and_false, Bool.and_false, Bool.and_false, Bool.and_false, Bool.and_false, Bool.and_false, Bool.and_false])
                    clear k8 k9
                    go_wp2_with fail
                    go_ret
                    exact ⟨by rw [HX.out]; try rfl, I.out.low⟩
                · have k8d : ((r.ords.length : Int) != (s.ords.length : Int)) = true := by simp; omega
                  have HX := Lib.hid (show sameS r s = false by rw [HE.out, show sameOs r.ords s.ords = false from sameBy_len k8, Bool.false_and, Bool.and_false, Bool.and_false, Bool.and_false, Bool.and_false, Bool.and_false, Bool.and_false, Bool.and_false, Bool.and_false])
                  clear k8
                  go_wp2_with fail
                  go_ret
                  exact ⟨by rw [HX.out]; try rfl, I.out.low⟩
end

/- StNew: What the document's New of layer 15 answers. -/
section
set_option maxRecDepth 100000
open Go.RowKit Go.ChangeShapes Go.WideShapes Go.ChangeAt
attribute [local go_sem ↓] ldOr stOr alOr bxOr bdOr ldBa stBa alBa bxBa bdBa ldSt stSt alSt bxSt bdSt ldEf stEf alEf bxEf eqEf bdEf bsEf ldGr bxGr eqGr ldCa bxCa eqCa
attribute [local go_sem] al_or bx_or st_ornew bd_or al_ba bx_ba st_banew bd_ba al_sta bx_sta st_stnew bd_sta al_ef bx_ef st_new bd_ef bs_ef bs_ef0 bx_gr ne_gr bx_ca ne_ca

/-- A state at its beginning, its doors somewhere. -/
def newR (wv mn : Cp) (limit : Int) (l : List Int) (a : Option Addr) (c : Nat) : StR := ⟨wv, mn, limit, l, a, c, 0, 1, 1, [], none, 0, [], none, 0, [], none, 0⟩
theorem bd_new (wv mn : Cp) (limit : Int) (l : List Int) (a : Option Addr) (c : Nat) (w : World) : BdX 29 #[(0, cpV wv), (1, cpV mn), (2, .int .i64 limit), (3, .slice a l.length c), (5, .int .i64 1), (6, .int .i64 1)] w = .ok (.value (stV (newR wv mn limit l a c))) w := by kernel_rfl
theorem doorsV_few (l : List Int) : (doorsV l).length ≤ 96 := by
  cases h : l.all doorB with
  | false => rw [doorsV_bad h]; simp
  | true => rw [doorsV_good h]; exact ticksOf_len l 96
/-- A state and an error's number are answered. -/
def NewOut (s : St) (n : Int) (w : World) (e : Ending) (w' : World) : Prop := ∃ r : StR, e = .returned (.tuple #[stV r, .int .i64 n]) ∧ r.st = s ∧ StP w' r ∧ Below w.heap.size w w'

theorem ld_ca {W : World} {g : Nat} {c : Cp} (h : Row W g 23 (cpC c)) : LdX 23 (.pointer (some ⟨g, 0, none⟩)) W = .ok (.value (cpV c)) W := ld_caAt (h.cell 0) (h.cell 1)
/-- Two caps that came in, each in a variable, and the result's variable behind them. -/
structure NwI (w : World) (x y : Cp) (W : World) : Prop where
  one : Row W w.heap.size 23 (cpC x)
  two : Row W (w.heap.size + 1) 23 (cpC y)
  res : Row W (w.heap.size + 2) 29 (stC noStR)
  low : Below w.heap.size w W
theorem NwI.below {w W W' : World} {x y : Cp} (h : NwI w x y W) (b : Below W.heap.size W W') : NwI w x y W' := ⟨h.one.below b, h.two.below b, h.res.below b, h.low.trans (b.mono h.low.size)⟩
theorem NwI.begin (w : World) (x y : Cp) : NwI w x y (((w.alloc (.cells (cpC x) 23)).alloc (.cells (cpC y) 23)).alloc (.cells (stC noStR) 29)) := by
  have h1 : (w.alloc (.cells (cpC x) 23)).heap.size = w.heap.size + 1 := by simp
  have h2 : ((w.alloc (.cells (cpC x) 23)).alloc (.cells (cpC y) 23)).heap.size = w.heap.size + 2 := by simp
  refine ⟨((Row.new w _ _).more _).more _, ?_, ?_, (((Below.refl _ _).alloc (Nat.le_refl _) _).alloc (by simp) _).alloc (by simp; omega) _⟩
  · have := (Row.new (w.alloc (.cells (cpC x) 23)) (cpC y) 23).more (.cells (stC noStR) 29)
    rwa [h1] at this
  · have := Row.new ((w.alloc (.cells (cpC x) 23)).alloc (.cells (cpC y) 23)) (stC noStR) 29
    rwa [h2] at this
theorem NwI.done {w W : World} {x y : Cp} (h : NwI w x y W) (z : Array Value) : Below w.heap.size w (W.setRow (w.heap.size + 2) z) := Below.row h.low (by omega) _

set_option maxHeartbeats 8000000 in
theorem refNew_any (x y : Cp) (limit : Int) (a : Option Addr) (cap : Nat) (l : List Int) (w : World) (h : IntsP w a cap l) (hm : l.length ≤ maxLen) :
    Calls Try.prog 11 #[cpV x, cpV y, .int .i64 limit, .slice a l.length cap] w (NewOut (newV x y limit l) (newE x y limit l) w) := by
  have I := Lib.hid (NwI.begin w x y)
  have C1 := Lib.hid (fun W => refCaps_any x W)
  have C2 := Lib.hid (fun W => refCaps_any y W)
  have CD := Lib.hid (refDoors_any a cap l _ (h.below I.out.low) hm)
  have HE := Lib.hid (show newOk x y limit l = ((doorsE l == 0) && (capsB x && (capsB y && (decide (1 ≤ limit) && decide (limit ≤ 100))))) by rw [← limitB_two]; rfl)
  have HV : Hid (∀ q, newOk x y limit l = q → newV x y limit l = (if q then ⟨x, y, limit, doorsV l, 0, 1, 1, [], [], []⟩ else noSt) ∧ newE x y limit l = if q then 0 else 151) := Lib.hid (fun q hq => by unfold newV newE; rw [hq]; exact ⟨rfl, rfl⟩)
  clear h
  go_enter Try.func11, Try.ntmps11
  go_wp2_with fail
  generalize ((w.alloc (.cells (cpC x) 23)).alloc (.cells (cpC y) 23)).alloc (.cells (stC noStR) 29) = W0 at *
  have HW : w.heap.size + 2 < W0.heap.size := I.out.res.lt
  refine CD.out.mono ?_
  rintro e w1 ⟨a1, c1, rfl, hI, b1⟩
  have DP := Lib.hid hI
  replace I := Lib.hid (I.out.below b1)
  have l1 := ld_ca I.out.one
  have l2 := ld_ca I.out.two
  have hfew := doorsV_few l
  have I0 := HW
  clear CD b1 hI
  cases k1 : (doorsE l == 0) with
  | false =>
    have k1d : (doorsE l != 0) = true := by simp only [bne, k1]; rfl
    have HX := Lib.hid (HV.out false (by rw [HE.out]; simp only [k1, Bool.false_and]))
    have st := st_sta I.out.res noStR
    go_wp2_with fail
    (try simp only [Exit.inBlock, Exit.then])
    apply bodyPost_ret
    case hd => rfl
    case hr => exact results_cell_one rfl _ _ (w.heap.size + 2) _ rfl (load12 (setRow_heap _ _ _ _ _ _ I.out.res))
    case hR => exact ⟨noStR, by rw [HX.out.2]; rfl, by rw [HX.out.1]; rfl, StP.none _, I.out.done _⟩
  | true =>
    have k1d : (doorsE l != 0) = false := by simp only [bne, k1]; rfl
    go_wp2_with fail
    refine (C1.out _).mono ?_
    rintro e w2 ⟨rfl, b2⟩
    have J := Lib.hid (I.out.below b2)
    have DP2 := Lib.hid (DP.out.below b2)
    clear l1 l2 b2 I DP
    have l2 := ld_ca J.out.two
    have l1 := ld_ca J.out.one
    cases k2 : capsB x with
    | false =>
      have HX := Lib.hid (HV.out false (by rw [HE.out]; simp only [k1, k2, Bool.false_and, Bool.and_false]))
      have st := st_sta J.out.res noStR
      go_wp2_with fail
      (try simp only [Exit.inBlock, Exit.then])
      apply bodyPost_ret
      case hd => rfl
      case hr => exact results_cell_one rfl _ _ (w.heap.size + 2) _ rfl (load12 (setRow_heap _ _ _ _ _ _ J.out.res))
      case hR => exact ⟨noStR, by rw [HX.out.2]; rfl, by rw [HX.out.1]; rfl, StP.none _, J.out.done _⟩
    | true =>
      go_wp2_with fail
      refine (C2.out _).mono ?_
      rintro e w3 ⟨rfl, b3⟩
      have K := Lib.hid (J.out.below b3)
      have DP3 := Lib.hid (DP2.out.below b3)
      clear l1 l2 b3 J DP2
      have l2 := ld_ca K.out.two
      have l1 := ld_ca K.out.one
      cases k3 : capsB y with
      | false =>
        have HX := Lib.hid (HV.out false (by rw [HE.out]; simp only [k1, k2, k3, Bool.false_and, Bool.and_false]))
        have st := st_sta K.out.res noStR
        go_wp2_with fail
        (try simp only [Exit.inBlock, Exit.then])
        apply bodyPost_ret
        case hd => rfl
        case hr => exact results_cell_one rfl _ _ (w.heap.size + 2) _ rfl (load12 (setRow_heap _ _ _ _ _ _ K.out.res))
        case hR => exact ⟨noStR, by rw [HX.out.2]; rfl, by rw [HX.out.1]; rfl, StP.none _, K.out.done _⟩
      | true =>
        cases k4 : decide (1 ≤ limit) with
        | false =>
          have k4d : limit < 1 := by simp at k4; omega
          have HX := Lib.hid (HV.out false (by rw [HE.out]; simp only [k1, k2, k3, k4, Bool.false_and, Bool.and_false]))
          have st := st_sta K.out.res noStR
          go_wp2_with fail
          (try simp only [Exit.inBlock, Exit.then])
          apply bodyPost_ret
          case hd => rfl
          case hr => exact results_cell_one rfl _ _ (w.heap.size + 2) _ rfl (load12 (setRow_heap _ _ _ _ _ _ K.out.res))
          case hR => exact ⟨noStR, by rw [HX.out.2]; rfl, by rw [HX.out.1]; rfl, StP.none _, K.out.done _⟩
        | true =>
          have k4d : ¬ limit < 1 := by simp at k4; omega
          cases k5 : decide (limit ≤ 100) with
          | false =>
            have k5d : 100 < limit := by simp at k5; omega
            have HX := Lib.hid (HV.out false (by rw [HE.out]; simp only [k1, k2, k3, k4, k5, Bool.and_false]))
            have st := st_sta K.out.res noStR
            go_wp2_with fail
            (try simp only [Exit.inBlock, Exit.then])
            apply bodyPost_ret
            case hd => rfl
            case hr => exact results_cell_one rfl _ _ (w.heap.size + 2) _ rfl (load12 (setRow_heap _ _ _ _ _ _ K.out.res))
            case hR => exact ⟨noStR, by rw [HX.out.2]; rfl, by rw [HX.out.1]; rfl, StP.none _, K.out.done _⟩
          | true =>
            have k5d : ¬ 100 < limit := by simp at k5; omega
            have HX := Lib.hid (HV.out true (by rw [HE.out]; simp only [k1, k2, k3, k4, k5, Bool.true_and]))
            have bd := bd_new x y limit (doorsV l) a1 c1
            have st := st_sta K.out.res (newR x y limit (doorsV l) a1 c1)
            go_wp2_with fail
            (try simp only [Exit.inBlock, Exit.then])
            apply bodyPost_ret
            case hd => rfl
            case hr => exact results_cell_one rfl _ _ (w.heap.size + 2) _ rfl (load12 (setRow_heap _ _ _ _ _ _ K.out.res))
            case hR =>
              refine ⟨newR x y limit (doorsV l) a1 c1, by rw [HX.out.2]; rfl, by rw [HX.out.1]; rfl, ?_, K.out.done _⟩
              exact ⟨(DP3.out.setRow (by have := I0; omega) _).at, by unfold maxLen; show (doorsV l).length ≤ _; omega, OrsP.nil _ _ _, BasP.nil _ _ _, EfsP.nil _ _ _⟩
end

/- StArgs: What came in as a state, as two caps, as numbers. -/
section
set_option maxRecDepth 100000
open Go.ChangeShapes Go.WideShapes Go.ChangeAt Go.RowKit

/-- A number of 64 bits. -/
def Wf (n : Int) : Prop := (Lit.int .i64 n).wf = true
def WfO (o : Od) : Prop := Wf o.total ∧ ∀ y ∈ o.ls, Wf y.qty
/-- Its numbers are of 64 bits. -/
structure WfS (r : StR) : Prop where
  ords : ∀ x ∈ r.ords, WfO x.o
  bats : ∀ x ∈ r.bats, Wf x.b.wt
  effs : ∀ e ∈ r.effs, Wf e.key
  doors : ∀ d ∈ r.doors, Wf d
/-- An order among others. -/
theorem order_cells {H : Type} {enc : TypeId × Value → H} {W : World} {n : Nat} {cs : List Value} {x : DataW H × List MemPlace}
    (hf : DataW.trod enc Try.prog W 0 (fun _ => true) true n 48 cs = some x) : ∃ r : OdR, cs = orL r ∧ OdP W r.a r.c r.o ∧ WfO r.o := by
  obtain ⟨xs, m, _, _, hlen, hxl, hf⟩ := DataW.trod_struct Try.underlying48 hf
  rw [cellsOr] at hlen
  match cs, hlen with
  | [c0, c1, c2, c3, c4, c5, c6, c7, c8, c9], _ =>
    have hx6 : xs.length = 6 := hxl
    match xs, hx6 with
    | [x0, x1, x2, x3, x4, x5], _ =>
      have h0 := hf 0 _ rfl
      have h1 := hf 1 _ rfl
      have h2 := hf 2 _ rfl
      have h3 := hf 3 _ rfl
      have h4 := hf 4 _ rfl
      have h5 := hf 5 _ rfl
      simp only [List.getElem?_cons_zero, List.getElem?_cons_succ] at h0 h1 h2 h3 h4 h5
      obtain ⟨s, e0, _, hs⟩ := DataW.trod_string Try.underlying9 h0
      obtain ⟨a, cap, ls, e1, hL, hl, hq⟩ := lns_cells_trod h1
      obtain ⟨g1, g2, g3, e2, q1, q2, q3⟩ := group_of_trod h2
      obtain ⟨t, e3, _, ht⟩ := DataW.trod_int Try.underlying2 h3
      obtain ⟨p', g', r', e4⟩ := saga_of_trod h4
      obtain ⟨b, e5, _⟩ := DataW.trod_int Try.underlying2 h5
      simp [cells9, cells2, cellsLs, cellsGr, cellsSg] at e0 e1 e2 e3 e4 e5
      obtain ⟨rfl, rfl, rfl⟩ := e2
      obtain ⟨rfl, rfl, rfl⟩ := e4
      subst e0 e1 e3 e5
      exact ⟨⟨⟨s, ls, g1, g2, g3, t, p', g', r', b⟩, a, cap⟩, rfl, ⟨hL, hl, hs, q1, q2, q3⟩, ht, hq⟩
theorem batch_cells {H : Type} {enc : TypeId × Value → H} {W : World} {n : Nat} {cs : List Value} {x : DataW H × List MemPlace}
    (hf : DataW.trod enc Try.prog W 0 (fun _ => true) true n 53 cs = some x) : ∃ r : BtR, cs = baL r ∧ BtP W r.a r.c r.b ∧ Wf r.b.wt := by
  obtain ⟨xs, m, _, _, hlen, hxl, hf⟩ := DataW.trod_struct Try.underlying53 hf
  rw [cellsBt] at hlen
  match cs, hlen with
  | [c0, c1, c2, c3, c4, c5, c6, c7, c8], _ =>
    have hx7 : xs.length = 7 := hxl
    match xs, hx7 with
    | [x0, x1, x2, x3, x4, x5, x6], _ =>
      have h0 := hf 0 _ rfl
      have h1 := hf 1 _ rfl
      have h2 := hf 2 _ rfl
      have h3 := hf 3 _ rfl
      have h4 := hf 4 _ rfl
      have h5 := hf 5 _ rfl
      have h6 := hf 6 _ rfl
      simp only [List.getElem?_cons_zero, List.getElem?_cons_succ] at h0 h1 h2 h3 h4 h5 h6
      obtain ⟨i, e0, _⟩ := DataW.trod_int Try.underlying2 h0
      obtain ⟨t, e1, _, ht⟩ := DataW.trod_int Try.underlying2 h1
      obtain ⟨f, e2, _⟩ := DataW.trod_int Try.underlying2 h2
      obtain ⟨k, e3, _⟩ := DataW.trod_int Try.underlying3 h3
      obtain ⟨q, e4, _⟩ := DataW.trod_int Try.underlying3 h4
      obtain ⟨g1, g2, g3, e5, q1, q2, q3⟩ := group_of_trod h5
      obtain ⟨a, cap, ls, e6, hL, hl, hs⟩ := strs_cells_trod h6
      simp [cells2, cellsI, cellsTs, cellsGr] at e0 e1 e2 e3 e4 e5 e6
      obtain ⟨rfl, rfl, rfl⟩ := e5
      subst e0 e1 e2 e3 e4 e6
      exact ⟨⟨⟨i, t, f, k, q, g1, g2, g3, ls⟩, a, cap⟩, rfl, ⟨hL, hs, q1, q2, q3⟩, ht⟩
theorem caps_cells {H : Type} {enc : TypeId × Value → H} {W : World} {base : Nat} {spare : Nat → Bool} {held : Bool} {n : Nat} {cs : List Value} {x : DataW H × List MemPlace}
    (hf : DataW.trod enc Try.prog W base spare held n 23 cs = some x) : ∃ c : Cp, cs = [.int .i64 c.count, .int .i64 c.wt] := by
  obtain ⟨xs, m, _, _, hlen, hxl, hf⟩ := DataW.trod_struct Try.underlying23 hf
  rw [cellsCp] at hlen
  match cs, hlen with
  | [c0, c1], _ =>
    have hx2 : xs.length = 2 := hxl
    match xs, hx2 with
    | [x0, x1], _ =>
      have h0 := hf 0 _ rfl
      have h1 := hf 1 _ rfl
      simp only [List.getElem?_cons_zero, List.getElem?_cons_succ] at h0 h1
      obtain ⟨n, e0, _⟩ := DataW.trod_int Try.underlying3 h0
      obtain ⟨t, e1, _⟩ := DataW.trod_int Try.underlying2 h1
      simp [cellsI, cells2] at e0 e1
      subst e0 e1
      exact ⟨⟨n, t⟩, rfl⟩
theorem ints_cells {H : Type} {enc : TypeId × Value → H} {W : World} {fuel : Nat} {cs : List Value} {x : DataW H × List MemPlace}
    (hf : DataW.trod enc Try.prog W 0 (fun _ => true) true fuel 24 cs = some x) : ∃ a cap l, cs = [.slice a (List.length l) cap] ∧ IntsP W a cap l ∧ l.length ≤ maxLen ∧ ∀ d ∈ l, Wf d := by
  rcases open_ints Try.underlying24 Try.underlying3 cellsI hf with ⟨hcs, hx⟩ | ⟨a, len, cap, zs, hcs, _, hl, hm, hz, hx, hcell, hws⟩
  · exact ⟨none, 0, [], hcs, IntsP.nil _ _ _, by simp, by simp⟩
  · simp only [if_true] at hz
    have hlen : (zs.take len).length = len := by rw [List.length_take]; omega
    refine ⟨_, cap, zs.take len, by rw [hlen]; exact hcs, ⟨by omega, fun hne => ?_⟩, by omega, fun d hd => hws d (List.mem_of_mem_take hd)⟩
    have hpos : 0 < len := by
      rcases Nat.eq_zero_or_pos len with h | h
      · subst h; simp at hne
      · exact h
    obtain ⟨b, off, spot⟩ := a
    have hspot : spot = none := by simpa [Addr.add] using World.cell?_spot (hcell 0 (by omega))
    subst hspot
    have hc0 := hcell 0 (by omega)
    refine ⟨b, off, rfl, ?_, fun j x hj => ?_⟩
    · have := World.block_lt_of_cell? W _ hc0
      simpa [Addr.add] using this
    · have hj2 := (List.getElem?_eq_some_iff.1 hj).1
      rw [List.length_take] at hj2
      rw [← Go.WideShapes.add_plain, hcell j (by omega)]
      rw [List.getElem?_take] at hj
      split at hj
      · rw [List.getD_eq_getElem?_getD, hj]; rfl
      · cases hj
theorem cellsSt : Try.prog.cellsOf 29 = 12 := by kernel_rfl
theorem cellsIs : Try.prog.cellsOf 24 = 1 := by kernel_rfl
theorem cellsOs : Try.prog.cellsOf 25 = 1 := by kernel_rfl
theorem cellsBs : Try.prog.cellsOf 26 = 1 := by kernel_rfl
theorem cellsEs : Try.prog.cellsOf 27 = 1 := by kernel_rfl
theorem keyed_cells {H : Type} {enc : TypeId × Value → H} {W : World} {base : Nat} {spare : Nat → Bool} {held : Bool} {n : Nat} {cs : List Value} {x : DataW H × List MemPlace}
    (h : DataW.trod enc Try.prog W base spare held n 55 cs = some x) : ∃ y : Ef, cs = efL y ∧ y.order.size ≤ maxLen ∧ Wf y.key := by
  obtain ⟨y, e, hs⟩ := effect_cells h
  refine ⟨y, e, hs, ?_⟩
  subst e
  obtain ⟨xs, m, _, _, hlen, hxl, hf⟩ := DataW.trod_struct Try.underlying55 h
  have hx : xs.length = 6 := hxl
  match xs, hx with
  | [x0, x1, x2, x3, x4, x5], _ =>
    have h0 := hf 0 _ rfl
    simp only [List.getElem?_cons_zero] at h0
    obtain ⟨q0, e0, _, hq⟩ := DataW.trod_int Try.underlying2 h0
    simp [cells2, efL] at e0
    subst e0
    exact hq
theorem state_of_trod {H : Type} {enc : TypeId × Value → H} {W : World} {base : Nat} {v : Value} {d : DataW H} {p : List MemPlace}
    (hv : Value.okWide Try.prog W .any base 29 v) (h : DataW.Trod enc Try.prog W 0 (fun _ => true) true 29 v d p) : ∃ r : StR, v = stV r ∧ StP W r ∧ WfS r := by
  obtain ⟨cs, rfl, hsz⟩ := okWide_struct Try.underlying29 hv
  obtain ⟨fuel, hf⟩ := h
  obtain ⟨xs, m, _, _, hlen, hxl, hf⟩ := DataW.trod_struct Try.underlying29 hf
  rw [cellsSt] at hlen
  simp only [Value.cells] at hlen hf
  obtain ⟨l⟩ := cs
  match l, hlen with
  | [c0, c1, c2, c3, c4, c5, c6, c7, c8, c9, c10, c11], _ =>
    have hx10 : xs.length = 10 := hxl
    match xs, hx10 with
    | [x0, x1, x2, x3, x4, x5, x6, x7, x8, x9], _ =>
      have h0 := hf 0 _ rfl
      have h1 := hf 1 _ rfl
      have h2 := hf 2 _ rfl
      have h3 := hf 3 _ rfl
      have h4 := hf 4 _ rfl
      have h5 := hf 5 _ rfl
      have h6 := hf 6 _ rfl
      have h7 := hf 7 _ rfl
      have h8 := hf 8 _ rfl
      have h9 := hf 9 _ rfl
      simp only [List.getElem?_cons_zero, List.getElem?_cons_succ] at h0 h1 h2 h3 h4 h5 h6 h7 h8 h9
      obtain ⟨w1, e0⟩ := caps_cells h0
      obtain ⟨w2, e1⟩ := caps_cells h1
      obtain ⟨lim, e2, _⟩ := DataW.trod_int Try.underlying3 h2
      obtain ⟨da, dc, ds, e3, hD, hDl, hDw⟩ := ints_cells h3
      obtain ⟨now, e4, _⟩ := DataW.trod_int Try.underlying2 h4
      obtain ⟨nb, e5, _⟩ := DataW.trod_int Try.underlying2 h5
      obtain ⟨nk, e6, _⟩ := DataW.trod_int Try.underlying2 h6
      obtain ⟨oa, oc, os, e7, hO, _, hOe⟩ := sl_cells_trod (L := LO) LO_ok cellsOr (P := fun r => OdP W r.a r.c r.o ∧ WfO r.o) (fun h => order_cells h) h7
      obtain ⟨ba, bc, bs, e8, hB, _, hBe⟩ := sl_cells_trod (L := LB) LB_ok cellsBt (P := fun r => BtP W r.a r.c r.b ∧ Wf r.b.wt) (fun h => batch_cells h) h8
      obtain ⟨ea, ec, es, e9, hE, _, hEe⟩ := sl_cells_trod (L := LE) LE_ok cellsEf (P := fun y => y.order.size ≤ maxLen ∧ Wf y.key) (fun h => keyed_cells h) h9
      simp [cells2, cellsI, cellsCp, cellsIs, cellsOs, cellsBs, cellsEs] at e0 e1 e2 e3 e4 e5 e6 e7 e8 e9
      obtain ⟨rfl, rfl⟩ := e0
      obtain ⟨rfl, rfl⟩ := e1
      subst e2 e3 e4 e5 e6 e7 e8 e9
      exact ⟨⟨w1, w2, lim, ds, da, dc, now, nb, nk, os, oa, oc, bs, ba, bc, es, ea, ec⟩, rfl, ⟨hD, hDl, ⟨hO, fun r hr => (hOe r hr).1⟩, ⟨hB, fun r hr => (hBe r hr).1⟩, hE, fun e he => (hEe e he).1⟩, fun r hr => (hOe r hr).2, fun r hr => (hBe r hr).2, fun e he => (hEe e he).2, hDw⟩
theorem ints_of_trod {H : Type} {enc : TypeId × Value → H} {W : World} {base : Nat} {v : Value} {d : DataW H} {p : List MemPlace}
    (hv : Value.okWide Try.prog W .any base 24 v) (h : DataW.Trod enc Try.prog W 0 (fun _ => true) true 24 v d p) : ∃ a cap l, v = .slice a (List.length l) cap ∧ IntsP W a cap l ∧ l.length ≤ maxLen := by
  obtain ⟨a0, len, cap, rfl⟩ := okWide_slice Try.underlying24 hv
  obtain ⟨fuel, hf⟩ := h
  obtain ⟨a, cap', l, e, hB, hl, _⟩ := ints_cells hf
  simp [Value.cells] at e
  obtain ⟨rfl, rfl, rfl⟩ := e
  exact ⟨_, _, l, rfl, hB, hl⟩
/-- Two caps that came in. -/
def ccV (x y : Cp) : Value := .agg #[.int .i64 x.count, .int .i64 x.wt, .int .i64 y.count, .int .i64 y.wt]
theorem cellsTwoCp : Try.prog.cellsOf 35 = 4 := by kernel_rfl
theorem okWide_four {W : World} {base : Nat} {v : Value} {t e : TypeId} (hu : Try.prog.underlying t = some (.array 2 e)) (hc : Try.prog.cellsOf t = 4) (hv : Value.okWide Try.prog W .any base t v) : ∃ c0 c1 c2 c3, v = .agg #[c0, c1, c2, c3] := by
  simp only [Value.okWide, hu] at hv
  obtain ⟨cs, rfl, hs, _⟩ := hv
  rw [hc] at hs
  obtain ⟨l⟩ := cs
  match l, hs with
  | [c0, c1, c2, c3], _ => exact ⟨c0, c1, c2, c3, rfl⟩
theorem twoCaps_of_trod {H : Type} {enc : TypeId × Value → H} {W : World} {base : Nat} {v : Value} {d : DataW H} {p : List MemPlace}
    (hv : Value.okWide Try.prog W .any base 35 v) (h : DataW.Trod enc Try.prog W 0 (fun _ => true) true 35 v d p) :
    ∃ x y : Cp, v = ccV x y := by
  obtain ⟨c0, c1, c2, c3, rfl⟩ := okWide_four Try.underlying35 cellsTwoCp hv
  obtain ⟨fuel, hf⟩ := h
  obtain ⟨xs, m, _, _, _, hl, hel⟩ := DataW.trod_array Try.underlying35 hf
  rw [cellsCp] at hel
  match xs, hl with
  | [y0, y1], _ =>
    have h0 := hel 0 (by omega)
    have h1 := hel 1 (by omega)
    simp [Value.cells] at h0 h1
    obtain ⟨x, e0⟩ := caps_cells h0
    obtain ⟨y, e1⟩ := caps_cells h1
    simp at e0 e1
    obtain ⟨rfl, rfl⟩ := e0
    obtain ⟨rfl, rfl⟩ := e1
    exact ⟨x, y, rfl⟩
end

/- StGreat: The laws' bound on states. -/
section
set_option maxRecDepth 100000
open Go.RowKit Go.ChangeShapes Go.WideShapes Go.ChangeAt
attribute [local go_sem ↓] ldOr stOr alOr bxOr bdOr ldBa stBa alBa bxBa bdBa ldSt stSt alSt bxSt bdSt ldEf stEf alEf bxEf eqEf bdEf bsEf ldGr bxGr eqGr
attribute [local go_sem] al_or bx_or st_ornew bd_or al_ba bx_ba st_banew bd_ba al_sta bx_sta st_stnew bd_sta al_ef bx_ef st_new bd_ef bs_ef bs_ef0 bx_gr ne_gr

def manyB (r : StR) : Bool := decide (60 < r.ords.length) || (decide (40 < r.bats.length) || (decide (100 < r.effs.length) || decide (100 < r.doors.length)))
def longB (r : StR) : Bool := r.ords.any (fun x => decide (20 < x.o.ls.length)) || r.bats.any (fun x => decide (80 < x.b.mem.length))
def greatB (r : StR) : Bool := manyB r || longB r
theorem any_drop {α : Type} (P : α → Bool) (l : List α) (k : Nat) (h : k < l.length) : (l.drop k).any P = (P l[k] || (l.drop (k + 1)).any P) := by
  rw [List.drop_eq_getElem_cons h, List.any_cons]
/-- What is not too great. -/
structure Small (r : StR) : Prop where
  ords : r.ords.length ≤ 60
  bats : r.bats.length ≤ 40
  effs : r.effs.length ≤ 100
  doors : r.doors.length ≤ 100
  ls : ∀ x ∈ r.ords, x.o.ls.length ≤ 20
  mem : ∀ x ∈ r.bats, x.b.mem.length ≤ 80
theorem small_of {r : StR} (h : greatB r = false) : Small r := by
  simp only [greatB, manyB, longB, Bool.or_eq_false_iff, decide_eq_false_iff_not, List.any_eq_false, decide_eq_true_eq] at h
  obtain ⟨⟨h1, h2, h3, h4⟩, h5, h6⟩ := h
  exact ⟨by omega, by omega, by omega, by omega, fun x hx => by have := h5 x hx; omega, fun x hx => by have := h6 x hx; omega⟩

set_option maxHeartbeats 8000000 in
theorem great_any (r : StR) (w : World) (h : StP w r) : Calls Try.prog 14 #[stV r] w (Tell (greatB r) w) := by
  have I := Lib.hid (OnI.begin w r h)
  have hl1 := h.ords.sl.len
  have hl2 := h.bats.sl.len
  have p1 := h.ords.sl.cap
  have p2 := h.bats.sl.cap
  unfold maxLen at hl1 hl2
  have c := I.out.one.st
  obtain ⟨⟨_, _, _, _, _, c5⟩, _, _, _, c9, c10, c11⟩ := c
  have HE := Lib.hid (show greatB r = ((decide (60 < r.ords.length) || (decide (40 < r.bats.length) || (decide (100 < r.effs.length) || decide (100 < r.doors.length)))) || (r.ords.any (fun x => decide (20 < x.o.ls.length)) || r.bats.any (fun x => decide (80 < x.b.mem.length)))) from rfl)
  clear h
  by_cases k1 : 60 < r.ords.length
  · have k1d : (60 : Int) < (r.ords.length : Int) := by omega
    have HX := Lib.hid (show greatB r = true by rw [HE.out, decide_eq_true k1]; rfl)
    go_enter Try.func14, Try.ntmps14
    go_wp2_with fail
    go_ret
    exact ⟨by rw [HX.out]; try rfl, I.out.low⟩
  · have k1d : ¬ (60 : Int) < (r.ords.length : Int) := by omega
    by_cases k2 : 40 < r.bats.length
    · have k2d : (40 : Int) < (r.bats.length : Int) := by omega
      have HX := Lib.hid (show greatB r = true by rw [HE.out, decide_eq_true k2, Bool.true_or, Bool.or_true, Bool.true_or])
      go_enter Try.func14, Try.ntmps14
      go_wp2_with fail
      go_ret
      exact ⟨by rw [HX.out]; try rfl, I.out.low⟩
    · have k2d : ¬ (40 : Int) < (r.bats.length : Int) := by omega
      by_cases k3 : 100 < r.effs.length
      · have k3d : (100 : Int) < (r.effs.length : Int) := by omega
        have HX := Lib.hid (show greatB r = true by rw [HE.out, decide_eq_true k3, Bool.true_or, Bool.or_true, Bool.or_true, Bool.true_or])
        go_enter Try.func14, Try.ntmps14
        go_wp2_with fail
        go_ret
        exact ⟨by rw [HX.out]; try rfl, I.out.low⟩
      · have k3d : ¬ (100 : Int) < (r.effs.length : Int) := by omega
        by_cases k4 : 100 < r.doors.length
        · have k4d : (100 : Int) < (r.doors.length : Int) := by omega
          have HX := Lib.hid (show greatB r = true by rw [HE.out, decide_eq_true k4, Bool.or_true, Bool.or_true, Bool.or_true, Bool.true_or])
          go_enter Try.func14, Try.ntmps14
          go_wp2_with fail
          go_ret
          exact ⟨by rw [HX.out]; try rfl, I.out.low⟩
        · have k4d : ¬ (100 : Int) < (r.doors.length : Int) := by omega
          have HF := Lib.hid (show greatB r = (r.ords.any (fun x => decide (20 < x.o.ls.length)) || r.bats.any (fun x => decide (80 < x.b.mem.length))) by rw [HE.out, decide_eq_false k1, decide_eq_false k2, decide_eq_false k3, decide_eq_false k4]; rfl)
          clear HE
          go_enter Try.func14, Try.ntmps14
          go_wp2_with fail
          generalize w.alloc (.cells (stC r) 29) = W0 at *
          clear c5 c9 c10 c11
          go_loopw [32] (fun i wr => ∃ (k : Nat), k ≤ r.ords.length ∧ i = .int .i64 k ∧ Hid (greatB r = ((r.ords.drop k).any (fun x => decide (20 < x.o.ls.length)) || r.bats.any (fun x => decide (80 < x.b.mem.length)))) ∧ Hid (OnI w r wr)) (fun i _ => r.ords.length - (intOf i).toNat)
          case atStart => exact ⟨0, Nat.zero_le _, rfl, HF, I⟩
          case round =>
            clear I HF
            obtain ⟨k, hk, rfl, HF, HI⟩ := hrel
            by_cases hlt : k < r.ords.length
            · obtain ⟨b, o, e, hb, _, ld, _⟩ := HI.out.st.ords.ld k hlt
              rw [e]
              clear e
              have HD := Lib.hid (any_drop (fun x : OdR => decide (20 < x.o.ls.length)) r.ords k hlt)
              generalize r.ords[k] = x at *
              have R := Lib.hid (Row.new wr (orC x) 48)
              have J := Lib.hid (HI.out.more (.cells (orC x) 48))
              have d1 := R.out.o.1.2.1
              by_cases q1 : 20 < x.o.ls.length
              · have q1d : (20 : Int) < (x.o.ls.length : Int) := by omega
                have HX := Lib.hid (show greatB r = true by rw [HF.out, HD.out, decide_eq_true q1]; rfl)
                go_wp2_with fail
                go_ret
                exact ⟨by rw [HX.out]; try rfl, J.out.low⟩
              · have q1d : ¬ (20 : Int) < (x.o.ls.length : Int) := by omega
                have HN := Lib.hid (show greatB r = ((r.ords.drop (k + 1)).any (fun x => decide (20 < x.o.ls.length)) || r.bats.any (fun x => decide (80 < x.b.mem.length))) by rw [HF.out, HD.out, decide_eq_false q1, Bool.false_or])
                go_wp2_with fail
                go_roundw
                case rel => exact ⟨k + 1, by omega, by go_num, HN, J⟩
                case measure => simp [intOf]; omega
            · have HF2 := Lib.hid (show greatB r = r.bats.any (fun x => decide (80 < x.b.mem.length)) by rw [HF.out, List.drop_eq_nil_of_le (by omega)]; rfl)
              clear HF
              have c10 := HI.out.one.st.2.2.2.2.2.1
              go_wp2_with fail
              go_loopw [44] (fun i wi => ∃ (k : Nat), k ≤ r.bats.length ∧ i = .int .i64 k ∧ Hid (greatB r = (r.bats.drop k).any (fun x => decide (80 < x.b.mem.length))) ∧ Hid (OnI w r wi)) (fun i _ => r.bats.length - (intOf i).toNat)
              case atStart => exact ⟨0, Nat.zero_le _, rfl, HF2, HI⟩
              case round =>
                clear HI HF2 c10
                obtain ⟨k, hk, rfl, HF, HI⟩ := hrel
                by_cases hlt : k < r.bats.length
                · obtain ⟨b, o, e, hb, _, ld, _⟩ := HI.out.st.bats.ld k hlt
                  rw [e]
                  clear e
                  have HD := Lib.hid (any_drop (fun x : BtR => decide (80 < x.b.mem.length)) r.bats k hlt)
                  generalize r.bats[k] = x at *
                  have R := Lib.hid (Row.new wr (baC x) 53)
                  have J := Lib.hid (HI.out.more (.cells (baC x) 53))
                  have d8 := R.out.b.2.2.2.2
                  by_cases q1 : 80 < x.b.mem.length
                  · have q1d : (80 : Int) < (x.b.mem.length : Int) := by omega
                    have HX := Lib.hid (show greatB r = true by rw [HF.out, HD.out, decide_eq_true q1]; rfl)
                    go_wp2_with fail
                    go_ret
                    exact ⟨by rw [HX.out]; try rfl, J.out.low⟩
                  · have q1d : ¬ (80 : Int) < (x.b.mem.length : Int) := by omega
                    have HN := Lib.hid (show greatB r = (r.bats.drop (k + 1)).any (fun x => decide (80 < x.b.mem.length)) by rw [HF.out, HD.out, decide_eq_false q1, Bool.false_or])
                    go_wp2_with fail
                    go_roundw
                    case rel => exact ⟨k + 1, by omega, by go_num, HN, J⟩
                    case measure => simp [intOf]; omega
                · have HX := Lib.hid (show greatB r = false by rw [HF.out, List.drop_eq_nil_of_le (by omega)]; rfl)
                  go_wp2_with fail
                  go_ret
                  exact ⟨by rw [HX.out]; try rfl, HI.out.low⟩
end

/- StHung: Plain facts on a state that hangs together: who is found, what is held. -/
section
set_option maxRecDepth 100000

theorem goodO_pair : ∀ (l : List Od) (p : Option ByteArray), goodO p l = true → l.Pairwise (fun x y => kcmp x.id y.id < 0) ∧ ∀ q, p = some q → ∀ x ∈ l, kcmp q x.id < 0
  | [], _, _ => ⟨List.Pairwise.nil, fun _ _ x hx => by simp at hx⟩
  | o :: r, p, h => by
    simp only [goodO, Bool.and_eq_true] at h
    obtain ⟨_, h2, h3⟩ := h
    obtain ⟨i1, i2⟩ := goodO_pair r _ h3
    refine ⟨List.pairwise_cons.2 ⟨fun y hy => i2 o.id rfl y hy, i1⟩, fun q hq x hx => ?_⟩
    subst hq
    have h2' : kcmp q o.id < 0 := by simpa [aheadO] using h2
    rcases List.mem_cons.1 hx with rfl | hx
    · exact h2'
    · exact kcmp_trans h2' (i2 o.id rfl x hx)
theorem goodB_pair (os : List Od) (nb : Int) : ∀ (l : List Bt) (p : Option Int), goodB os nb p l = true → l.Pairwise (fun x y => x.id < y.id) ∧ ∀ q, p = some q → ∀ x ∈ l, q < x.id
  | [], _, _ => ⟨List.Pairwise.nil, fun _ _ x hx => by simp at hx⟩
  | b :: r, p, h => by
    simp only [goodB, Bool.and_eq_true] at h
    obtain ⟨_, h2, h3⟩ := h
    obtain ⟨i1, i2⟩ := goodB_pair os nb r _ h3
    refine ⟨List.pairwise_cons.2 ⟨fun y hy => i2 b.id rfl y hy, i1⟩, fun q hq x hx => ?_⟩
    subst hq
    have h2' : q < b.id := by simpa [aheadB] using h2
    rcases List.mem_cons.1 hx with rfl | hx
    · exact h2'
    · exact Int.lt_trans h2' (i2 b.id rfl x hx)
theorem findO_self : ∀ {l : List Od}, l.Pairwise (fun x y => kcmp x.id y.id < 0) → ∀ {o : Od}, o ∈ l → findO l o.id = some o
  | [], _, o, h => by simp at h
  | x :: r, hp, o, h => by
    rw [List.pairwise_cons] at hp
    unfold findO
    rw [List.find?_cons]
    rcases List.mem_cons.1 h with rfl | h
    · simp
    · have hne : (x.id.toList == o.id.toList) = false := str_ne (fun e => by
        have := hp.1 o h
        rw [e, kcmp_self] at this
        omega)
      rw [hne]
      exact findO_self hp.2 h
theorem findB_self : ∀ {l : List Bt}, l.Pairwise (fun x y => x.id < y.id) → ∀ {b : Bt}, b ∈ l → findB l b.id = some b
  | [], _, b, h => by simp at h
  | x :: r, hp, b, h => by
    rw [List.pairwise_cons] at hp
    unfold findB
    rw [List.find?_cons]
    rcases List.mem_cons.1 h with rfl | h
    · simp
    · have hne : (x.id == b.id) = false := by
        have := hp.1 b h
        rw [beq_eq_false_iff_ne]
        omega
      rw [hne]
      exact findB_self hp.2 h
/-- What follows for a state that hangs together. -/
structure HungP (s : St) : Prop where
  ords : s.ords.Pairwise (fun x y => kcmp x.id y.id < 0)
  bats : s.bats.Pairwise (fun x y => x.id < y.id)
  ok : ∀ b ∈ s.bats, batchOk s.ords s.nb b = true
  right : ∀ o ∈ s.ords, rightO o = true
  held : ∀ o ∈ s.ords, heldIn s.bats o = true
  effs : effsOk s.ords s.bats s.effs s.nk = true
  lim : limitsB s = true
  few : s.ords.length ≤ 400
theorem hung_of {s : St} (h : rightS s = true) : HungP s := by
  simp only [rightS, Bool.and_eq_true, List.all_eq_true, decide_eq_true_eq] at h
  obtain ⟨h0, hf, h1, h2, h3, h4⟩ := h
  exact ⟨(goodO_pair _ _ h1).1, (goodB_pair _ _ _ _ h2).1, goodB_all _ _ _ _ h2, goodO_all _ _ h1, h3, h4, h0, hf⟩
theorem HungP.weighs {s : St} (h : HungP s) {b : Bt} (hb : b ∈ s.bats) : weighS s.ords b.mem = b.wt ∧ (b.kind = 1 ∨ b.kind = 2) ∧ (1 ≤ b.phase ∧ b.phase ≤ 3) ∧ b.mem.length ≤ 64 := by
  have := h.ok b hb
  have hk := rightBt_kind (batchOk_right this)
  simp only [batchOk, Bool.and_eq_true, beq_iff_eq] at this
  exact ⟨this.2.2.2.2.1, hk⟩
/-- One is held by its own kind and group, once, while it is open. -/
theorem held_none {l : List Bt} {id : Int} (h : ∀ x ∈ l, x.id ≠ id) (kind : Int) (a b c : ByteArray) : (heldV l kind a b c).countP (· == id) = 0 := by
  rw [List.countP_eq_zero]
  intro n hn
  unfold heldV at hn
  obtain ⟨x, hx, rfl⟩ := List.mem_map.1 hn
  have := h x (List.mem_filter.1 hx).1
  simpa using this
theorem sameG_self (a b c : ByteArray) : sameG a b c a b c = true := by simp [sameG]
theorem held_once : ∀ {l : List Bt}, l.Pairwise (fun x y => x.id < y.id) → ∀ {b : Bt}, b ∈ l → ∀ (kind : Int), (heldV l kind b.car b.zone b.serv).countP (· == b.id) = if kind == b.kind && b.phase == 1 then 1 else 0
  | [], _, b, h, _ => by simp at h
  | x :: r, hp, b, h, kind => by
    rw [List.pairwise_cons] at hp
    rcases List.mem_cons.1 h with rfl | h
    · have hr := held_none (l := r) (id := b.id) (fun y hy => by have := hp.1 y hy; omega) kind b.car b.zone b.serv
      unfold heldV at hr ⊢
      rw [List.filter_cons]
      simp only [heldP, sameG_self, Bool.and_true] at hr ⊢
      rw [show (b.kind == kind) = (kind == b.kind) from Bool.beq_comm ..]
      cases hk : (kind == b.kind && b.phase == 1) with
      | true => simp only [if_true, List.map_cons, List.countP_cons, hr]; simp
      | false => simp only [Bool.false_eq_true, if_false, hr]
    · have ih := held_once hp.2 h kind
      have hne : (x.id == b.id) = false := by
        have := hp.1 b h
        rw [beq_eq_false_iff_ne]
        omega
      unfold heldV at ih ⊢
      rw [List.filter_cons]
      split
      · rw [List.map_cons, List.countP_cons, hne, ih]; rfl
      · exact ih
end

/- StCon: What package state's calls answer, as the laws want it. -/
section
set_option maxRecDepth 100000
open Go.RowKit Go.ChangeShapes Go.WideShapes Go.ChangeAt

/-- What package state's New answers. -/
def NewC : Prop := ∀ (x y : Cp) (limit : Int) (a : Option Addr) (cap : Nat) (l : List Int) (w : World), IntsP w a cap l → l.length ≤ maxLen → Calls Try.prog 8 #[cpV x, cpV y, .int .i64 limit, .slice a l.length cap] w (NewOut (newV x y limit l) (newE x y limit l) w)
/-- What package state's Right answers. -/
def RightC : Prop := ∀ (r : StR) (w : World), StP w r → FewS r → Calls Try.prog 13 #[stV r] w (Tell (rightS r.st) w)
theorem Small.few {r : StR} (h : Small r) : FewS r := ⟨Nat.le_trans h.ords (by decide), Nat.le_trans h.bats (by decide), Nat.le_trans h.effs (by decide)⟩
def WeightC : Prop := ∀ (r : StR) (a : Option Addr) (cap : Nat) (ids : List ByteArray) (w : World), StP w r → FewS r → rightS r.st = true → StrsP w a cap ids → ids.length ≤ 1000000 → Calls Try.prog 102 #[stV r, .slice a ids.length cap] w (NumP (weighS (odsOf r.ords) ids) w)
/-- Numbers are answered. -/
def NumsOut (l : List Int) (w : World) (e : Ending) (w' : World) : Prop := ∃ a cap, e = .returned (.slice a l.length cap) ∧ Ints8P w' a cap l ∧ Below w.heap.size w w'
theorem Ints8P.below {w w' : World} {a cap ls} (h : Ints8P w a cap ls) (hb : Below w.heap.size w w') : Ints8P w' a cap ls := by
  refine ⟨h.cap, fun hne => ?_⟩
  obtain ⟨b, o, e, hlt, hc⟩ := h.cell hne
  exact ⟨b, o, e, Nat.lt_of_lt_of_le hlt hb.size, fun j x hx => (hb.cell (p := ⟨b, o + j, none⟩) hlt).trans (hc j x hx)⟩
theorem Ints8P.at {w : World} {a : Option Addr} {cap : Nat} {l : List Int} (h : Ints8P w a cap l) (k : Nat) (hk : k < l.length) : ∃ b o, a = some ⟨b, o, none⟩ ∧ b < w.heap.size ∧ w.cell? ⟨b, o + k, none⟩ = some (.int .i64 l[k]) := by
  obtain ⟨b, o, e, hb, hc⟩ := h.cell (by intro e; subst e; simp at hk)
  exact ⟨b, o, e, hb, hc k _ (List.getElem?_eq_getElem hk)⟩
end

/- StAlive: The chapter's example. -/
section
set_option maxRecDepth 100000
open Go.RowKit Go.ChangeShapes Go.WideShapes Go.ChangeAt
attribute [local go_sem ↓] ldOr stOr alOr bxOr bdOr ldBa stBa alBa bxBa bdBa ldSt stSt alSt bxSt bdSt ldEf stEf alEf bxEf eqEf bdEf bsEf ldGr bxGr eqGr ldCa bxCa eqCa
attribute [local go_sem] al_or bx_or st_ornew bd_or al_ba bx_ba st_banew bd_ba al_sta bx_sta st_stnew bd_sta al_ef bx_ef st_new bd_ef bs_ef bs_ef0 bx_gr ne_gr bx_ca ne_ca eq_caX

def cpA : Cp := ⟨3, 100⟩
theorem results_cell_alone {fn : Func} {p : Tmp} {ty : TypeId} (h : fn.results = #[.cell p ty]) (tmps : Array Value) (w : World) (g : Nat) (cs : Array Value)
    (hp : tmps.getD p undef = .pointer (some ⟨g, 0, none⟩)) (hl : (loadVar ty ⟨g, 0, none⟩).run Try.prog w = .ok (.agg cs) w) :
    (results fn tmps).run Try.prog w = .ok (.agg cs) w := by
  have hp' : tmps[p]?.getD undef = .pointer (some ⟨g, 0, none⟩) := by simpa using hp
  simp [results, h, hp', asAddr, hl]
theorem sizeCp2 (c : Cp) : (Try.prog.info? 23).map (·.size) = some (cpC c).size := by
  show _ = some 2
  kernel_rfl
theorem loadCp {W : World} {g : Nat} {c : Cp} (h : Row W g 23 (cpC c)) : (loadVar 23 ⟨g, 0, none⟩).run Try.prog W = .ok (.agg (cpC c)) W :=
  run_loadVar_row (P := Try.prog) W g 23 23 _ (0, 0) _ h Try.underlying23 rfl (sizeCp2 c)
set_option maxHeartbeats 1000000 in
theorem capsA_any (w : World) : Calls Try.prog 9 #[] w fun e w' => e = .returned (cpV cpA) ∧ Below w.heap.size w w' := by
  have B := Lib.hid ((Below.refl w.heap.size w).alloc (Nat.le_refl _) (Obj.cells (cpC cpA) 23))
  have R := Lib.hid (Row.new w (cpC cpA) 23)
  go_enter Try.func9, Try.ntmps9
  go_wp2_with fail
  (try simp only [Exit.inBlock, Exit.then])
  apply bodyPost_ret
  case hd => rfl
  case hr => exact results_cell_alone rfl _ _ w.heap.size _ rfl (loadCp R.out)
  case hR => exact ⟨rfl, B.out⟩

def lnA : Ln := ⟨⟨#[120]⟩, 1, 0⟩
def odA : Od := ⟨⟨#[97]⟩, [lnA], ⟨#[99]⟩, ⟨#[122]⟩, ⟨#[115]⟩, 0, 1, false, 0, 0⟩
def efA : Ef := ⟨1, 0, 0, 1, 0, ⟨#[97]⟩⟩
theorem bd_odA (b : Nat) (w : World) : BdX 48 #[(0, .string ⟨#[97]⟩), (1, .slice (some ⟨b, 0, none⟩) 1 1), (2, .agg #[.string ⟨#[99]⟩, .string ⟨#[122]⟩, .string ⟨#[115]⟩]), (4, .agg #[.int .i64 1, .bool false, .int .i64 0])] w = .ok (.value (orV ⟨odA, some ⟨b, 0, none⟩, 1⟩)) w := by kernel_rfl
theorem bs_odA (r : OdR) (w : World) : BsX 25 1 #[(0, orV r)] w = .ok (.value (.slice (some ⟨w.heap.size, 0, none⟩) 1 1)) (w.alloc (.cells (orC r) 48)) := by kernel_rfl
theorem bd_efA (w : World) : BdX 55 #[(0, .int .i64 1), (3, .int .i64 1), (5, .string ⟨#[97]⟩)] w = .ok (.value (efV efA)) w := by kernel_rfl
section
variable (ev : Operand → Value) (d : Option Tmp) (ty : TypeId) (pos : String) (af : Array Edge) (gd : Option (Nat × Bool)) (w : World)
theorem bsOr (n : Nat) (ps : Array (Nat × Operand)) : (execOp ev ⟨d, .buildSlice 25 n ps, ty, pos, af, gd⟩).run Try.prog w = BsX 25 n (ps.map fun (i, x) => (i, ev x)) w := rfl
end
attribute [local go_sem ↓] bsOr
attribute [local go_sem] bd_odA bs_odA bd_efA

/-- The example's states. -/
def alR (da : Option Addr) (dc : Nat) (oa : Option Addr) (oc : Nat) (ba : Option Addr) (bc : Nat) (ea : Option Addr) (ec : Nat) : StR := ⟨cpA, cpA, 3, [10, 50], da, dc, 0, 1, 1, [], oa, oc, [], ba, bc, [], ea, ec⟩
def alT (da : Option Addr) (dc : Nat) (lb ob : Nat) (ba : Option Addr) (bc : Nat) (ea : Option Addr) (ec : Nat) : StR := ⟨cpA, cpA, 3, [10, 50], da, dc, 0, 1, 1, [⟨odA, some ⟨lb, 0, none⟩, 1⟩], some ⟨ob, 0, none⟩, 1, [], ba, bc, [], ea, ec⟩
def alU (da : Option Addr) (dc : Nat) (lb ob : Nat) (ba : Option Addr) (bc : Nat) (eb : Nat) : StR := ⟨cpA, cpA, 3, [10, 50], da, dc, 0, 1, 2, [⟨odA, some ⟨lb, 0, none⟩, 1⟩], some ⟨ob, 0, none⟩, 1, [], ba, bc, [efA], some ⟨eb, 0, none⟩, 1⟩
theorem al_of {r : StR} (h : r.st = ⟨cpA, cpA, 3, [10, 50], 0, 1, 1, [], [], []⟩) : ∃ da dc oa oc ba bc ea ec, r = alR da dc oa oc ba bc ea ec := by
  obtain ⟨x, y, l, d, da, dc, n, nb, nk, os, oa, oc, bs, ba, bc, es, ea, ec⟩ := r
  simp only [StR.st, St.mk.injEq, odsOf, btsOf, List.map_eq_nil_iff] at h
  obtain ⟨rfl, rfl, rfl, rfl, rfl, rfl, rfl, rfl, rfl, rfl⟩ := h
  exact ⟨da, dc, oa, oc, ba, bc, ea, ec, rfl⟩
theorem al_new : newV cpA cpA 3 [50, 10] = ⟨cpA, cpA, 3, [10, 50], 0, 1, 1, [], [], []⟩ ∧ newE cpA cpA 3 [50, 10] = 0 := by
  have h1 : newOk cpA cpA 3 [50, 10] = true := by decide +kernel
  have h2 : doorsV [50, 10] = [10, 50] := by decide +kernel
  unfold newV newE
  rw [h1, h2]
  exact ⟨rfl, rfl⟩
theorem st_stat {V : World} {n : Nat} (h : V.heap.size = n) (r : StR) : StX 29 (.pointer (some ⟨n, 0, none⟩)) (stV r) (V.alloc (.cells (stC noStR) 29)) = .ok .skip (V.alloc (.cells (stC r) 29)) := by
  rw [← h]; exact st_stnew V r
theorem al_right : rightS ⟨cpA, cpA, 3, [10, 50], 0, 1, 1, [], [], []⟩ = true ∧ rightS ⟨cpA, cpA, 3, [10, 50], 0, 1, 1, [odA], [], []⟩ = false ∧ rightS ⟨cpA, cpA, 3, [10, 50], 0, 1, 2, [odA], [], [efA]⟩ = true := by decide +kernel

theorem lnsA {W : World} {g : Nat} (h : Row W g 50 #[.string ⟨#[120]⟩, .int .i64 1, .int .i64 0]) : LnsP W (some ⟨g, 0, none⟩) 1 [lnA] := by
  refine ⟨by simp, fun x hx => ?_, fun _ => ⟨g, 0, rfl, h.lt, fun j x hj => ?_⟩⟩
  · rw [List.mem_singleton.1 hx]; decide
  · match j, hj with
    | 0, hj => injection hj with hj; subst hj; exact ⟨h.cell 0, h.cell 1, h.cell 2⟩
    | j + 1, hj => cases hj
/-- The example's three states, each in a variable. -/
structure AlI (w : World) (n : Nat) (db dq : Nat) (da : Option Addr) (dc : Nat) (lb ob eb : Nat) (oa : Option Addr) (oc : Nat) (ba : Option Addr) (bc : Nat) (ea : Option Addr) (ec : Nat) (V : World) : Prop where
  one : Row V n 29 (stC (alR da dc oa oc ba bc ea ec))
  two : Row V (n + 1) 29 (stC (alT da dc lb ob ba bc ea ec))
  three : Row V (n + 1 + 1 + 1 + 1) 29 (stC (alU da dc lb ob ba bc eb))
  st : StP V (alR da dc oa oc ba bc ea ec) ∧ StP V (alT da dc lb ob ba bc ea ec) ∧ StP V (alU da dc lb ob ba bc eb)
  low : Below w.heap.size w V
  door : V.cell? ⟨db, dq, none⟩ = some (.int .i64 10)
  at_ : da = some ⟨db, dq, none⟩
  lt : db < V.heap.size
theorem al_parts {w V : World} {da : Option Addr} {dc : Nat} {oa : Option Addr} {oc : Nat} {ba : Option Addr} {bc : Nat} {ea : Option Addr} {ec lb ob eb : Nat} (h : StP w (alR da dc oa oc ba bc ea ec)) (b : Below w.heap.size w V)
    (hl : Row V lb 50 #[.string ⟨#[120]⟩, .int .i64 1, .int .i64 0]) (ho : SlP LO V (some ⟨ob, 0, none⟩) 1 [⟨odA, some ⟨lb, 0, none⟩, 1⟩]) (he : SlP LE V (some ⟨eb, 0, none⟩) 1 [efA]) :
    StP V (alR da dc oa oc ba bc ea ec) ∧ StP V (alT da dc lb ob ba bc ea ec) ∧ StP V (alU da dc lb ob ba bc eb) := by
  have h2 := h.below b
  have hO : OrsP V (some ⟨ob, 0, none⟩) 1 [⟨odA, some ⟨lb, 0, none⟩, 1⟩] := ⟨ho, fun r hr => by
    rw [List.mem_singleton.1 hr]
    exact ⟨lnsA hl, (by decide : odA.ls.length ≤ maxLen), (by decide : odA.id.size ≤ maxLen), (by decide : odA.car.size ≤ maxLen), (by decide : odA.zone.size ≤ maxLen), (by decide : odA.serv.size ≤ maxLen)⟩⟩
  have hE : EfsP V (some ⟨eb, 0, none⟩) 1 [efA] := ⟨he, fun e hm => by rw [List.mem_singleton.1 hm]; decide⟩
  exact ⟨h2, ⟨h2.doors, h2.dlen, hO, h2.bats, h2.effs⟩, ⟨h2.doors, h2.dlen, hO, h2.bats, hE⟩⟩
theorem AlI.below {w V V' : World} {n db dq : Nat} {da : Option Addr} {dc lb ob eb : Nat} {oa : Option Addr} {oc : Nat} {ba : Option Addr} {bc : Nat} {ea : Option Addr} {ec : Nat} (h : AlI w n db dq da dc lb ob eb oa oc ba bc ea ec V) (b : Below V.heap.size V V') : AlI w n db dq da dc lb ob eb oa oc ba bc ea ec V' :=
  ⟨h.one.below b, h.two.below b, h.three.below b, ⟨h.st.1.below b, h.st.2.1.below b, h.st.2.2.below b⟩, h.low.trans (b.mono h.low.size), (b.cell (p := ⟨db, dq, none⟩) h.lt).trans h.door, h.at_, Nat.lt_of_lt_of_le h.lt b.size⟩
theorem AlI.c5 {w V : World} {n db dq : Nat} {da : Option Addr} {dc lb ob eb : Nat} {oa : Option Addr} {oc : Nat} {ba : Option Addr} {bc : Nat} {ea : Option Addr} {ec : Nat} (h : AlI w n db dq da dc lb ob eb oa oc ba bc ea ec V) : V.cell? ⟨n, 5, none⟩ = some (.slice (some ⟨db, dq, none⟩) 2 dc) := by
  have := h.one.st.1.2.2.2.2.2
  rw [← h.at_]; exact this
theorem AlI.hd {w V : World} {n db dq : Nat} {da : Option Addr} {dc lb ob eb : Nat} {oa : Option Addr} {oc : Nat} {ba : Option Addr} {bc : Nat} {ea : Option Addr} {ec : Nat} (h : AlI w n db dq da dc lb ob eb oa oc ba bc ea ec V) : V.cell? ⟨db, dq, none⟩ = some (.int .i64 10) := h.door
theorem AlI.l1 {w V : World} {n db dq : Nat} {da : Option Addr} {dc lb ob eb : Nat} {oa : Option Addr} {oc : Nat} {ba : Option Addr} {bc : Nat} {ea : Option Addr} {ec : Nat} (h : AlI w n db dq da dc lb ob eb oa oc ba bc ea ec V) : LdX 29 (.pointer (some ⟨n, 0, none⟩)) V = .ok (.value (stV (alR da dc oa oc ba bc ea ec))) V := ld_sta h.one

set_option maxHeartbeats 8000000 in
theorem alive_of (HN : NewC) (HR : RightC) (w : World) : Calls Try.prog 10 #[] w (Tell true w) := by
  have CC := Lib.hid (fun W => capsA_any W)
  have CN := Lib.hid (fun a cap W h => HN cpA cpA 3 a cap [50, 10] W h (by decide))
  have HV := Lib.hid al_new
  have CR := Lib.hid (fun r W h hf => HR r W h hf)
  clear HN HR
  go_enter Try.func10, Try.ntmps10
  go_wp2_with fail
  refine (CC.out _).mono ?_
  rintro e w1 ⟨rfl, b1⟩
  go_wp2_with fail
  refine (CC.out _).mono ?_
  rintro e w2 ⟨rfl, b2⟩
  have B2 := Lib.hid (b1.trans (b2.mono b1.size))
  clear b1 b2
  have CN1 := Lib.hid (CN.out (some ⟨w2.heap.size, 0, none⟩) 2 (w2.alloc (.cells #[.int .i64 50, .int .i64 10] 3)) ⟨by simp, fun _ => ⟨w2.heap.size, 0, rfl, by simp, fun j x hj => by
    match j, hj with
    | 0, hj => injection hj with hj; subst hj; exact (Row.new w2 #[.int .i64 50, .int .i64 10] 3).cell 0
    | 1, hj => injection hj with hj; subst hj; exact (Row.new w2 #[.int .i64 50, .int .i64 10] 3).cell 1
    | j + 2, hj => cases hj⟩⟩)
  have B3 := Lib.hid (B2.out.alloc B2.out.size (.cells #[.int .i64 50, .int .i64 10] 3))
  go_wp2_with fail
  generalize w2.alloc (.cells #[.int .i64 50, .int .i64 10] 3) = W2 at *
  refine CN1.out.mono ?_
  rintro e w3 ⟨r, rfl, hr, hP, b3⟩
  rw [HV.out.2]
  rw [HV.out.1] at hr
  have B4 := Lib.hid (B3.out.trans (b3.mono B3.out.size))
  obtain ⟨da, dc, oa, oc, ba, bc, ea, ec, rfl⟩ := al_of hr
  obtain ⟨n, hn⟩ : ∃ n, w3.heap.size = n := ⟨_, rfl⟩
  have st0 : StX 29 (.pointer (some ⟨n, 0, none⟩)) (stV (alR da dc oa oc ba bc ea ec)) (w3.alloc (.cells (stC noStR) 29)) = .ok .skip (w3.alloc (.cells (stC (alR da dc oa oc ba bc ea ec)) 29)) := st_stat hn _
  have st1 : StX 29 (.pointer (some ⟨n + 1, 0, none⟩)) (stV (alR da dc oa oc ba bc ea ec)) ((w3.alloc (.cells (stC (alR da dc oa oc ba bc ea ec)) 29)).alloc (.cells (stC noStR) 29)) = .ok .skip ((w3.alloc (.cells (stC (alR da dc oa oc ba bc ea ec)) 29)).alloc (.cells (stC (alR da dc oa oc ba bc ea ec)) 29)) := st_stat (by simp [hn]) _
  have R0 : Row (w3.alloc (.cells (stC (alR da dc oa oc ba bc ea ec)) 29)) n 29 (stC (alR da dc oa oc ba bc ea ec)) := by rw [← hn]; exact Row.new _ _ _
  have ld0 := ld_sta R0
  have R5 : Row ((((w3.alloc (.cells (stC (alR da dc oa oc ba bc ea ec)) 29)).alloc (.cells ((stC (alR da dc oa oc ba bc ea ec)).setIfInBounds 9 (.slice (some ⟨(n + 1 + 1 + 1), 0, none⟩) 1 1)) 29)).alloc (.cells #[.string ⟨#[120]⟩, .int .i64 1, .int .i64 0] 50)).alloc (.cells (orC ⟨odA, some ⟨(n + 1 + 1), 0, none⟩, 1⟩) 48)) (n + 1) 29 (stC (alT da dc (n + 1 + 1) (n + 1 + 1 + 1) ba bc ea ec)) := by
    have := ((Row.new (w3.alloc (.cells (stC (alR da dc oa oc ba bc ea ec)) 29)) ((stC (alR da dc oa oc ba bc ea ec)).setIfInBounds 9 (.slice (some ⟨(n + 1 + 1 + 1), 0, none⟩) 1 1)) 29).more (.cells #[.string ⟨#[120]⟩, .int .i64 1, .int .i64 0] 50)).more (.cells (orC ⟨odA, some ⟨(n + 1 + 1), 0, none⟩, 1⟩) 48)
    rwa [show (w3.alloc (.cells (stC (alR da dc oa oc ba bc ea ec)) 29)).heap.size = n + 1 by simp [hn]] at this
  have ld5 := ld_sta R5
  have st6 : StX 29 (.pointer (some ⟨(n + 1 + 1 + 1 + 1), 0, none⟩)) (stV (alT da dc (n + 1 + 1) (n + 1 + 1 + 1) ba bc ea ec)) (((((w3.alloc (.cells (stC (alR da dc oa oc ba bc ea ec)) 29)).alloc (.cells ((stC (alR da dc oa oc ba bc ea ec)).setIfInBounds 9 (.slice (some ⟨(n + 1 + 1 + 1), 0, none⟩) 1 1)) 29)).alloc (.cells #[.string ⟨#[120]⟩, .int .i64 1, .int .i64 0] 50)).alloc (.cells (orC ⟨odA, some ⟨(n + 1 + 1), 0, none⟩, 1⟩) 48)).alloc (.cells (stC noStR) 29)) = .ok .skip (((((w3.alloc (.cells (stC (alR da dc oa oc ba bc ea ec)) 29)).alloc (.cells ((stC (alR da dc oa oc ba bc ea ec)).setIfInBounds 9 (.slice (some ⟨(n + 1 + 1 + 1), 0, none⟩) 1 1)) 29)).alloc (.cells #[.string ⟨#[120]⟩, .int .i64 1, .int .i64 0] 50)).alloc (.cells (orC ⟨odA, some ⟨(n + 1 + 1), 0, none⟩, 1⟩) 48)).alloc (.cells (stC (alT da dc (n + 1 + 1) (n + 1 + 1 + 1) ba bc ea ec)) 29)) := st_stat (by simp [hn]) _
  obtain ⟨db, dq, hda, hdb, hd0⟩ := hP.doors.at 0 (by show 0 < 2; decide)
  have X1 : Row ((((((w3.alloc (.cells (stC (alR da dc oa oc ba bc ea ec)) 29)).alloc (.cells ((stC (alR da dc oa oc ba bc ea ec)).setIfInBounds 9 (.slice (some ⟨(n + 1 + 1 + 1), 0, none⟩) 1 1)) 29)).alloc (.cells #[.string ⟨#[120]⟩, .int .i64 1, .int .i64 0] 50)).alloc (.cells (orC ⟨odA, some ⟨(n + 1 + 1), 0, none⟩, 1⟩) 48)).alloc (.cells (((stC (alT da dc (n + 1 + 1) (n + 1 + 1 + 1) ba bc ea ec)).setIfInBounds 11 (.slice (some ⟨(n + 1 + 1 + 1 + 1 + 1), 0, none⟩) 1 1)).setIfInBounds 8 (.int .i64 2)) 29)).alloc (.cells (efC efA) 55)) n 29 (stC (alR da dc oa oc ba bc ea ec)) := ((((R0.more (.cells ((stC (alR da dc oa oc ba bc ea ec)).setIfInBounds 9 (.slice (some ⟨(n + 1 + 1 + 1), 0, none⟩) 1 1)) 29)).more (.cells #[.string ⟨#[120]⟩, .int .i64 1, .int .i64 0] 50)).more (.cells (orC ⟨odA, some ⟨(n + 1 + 1), 0, none⟩, 1⟩) 48)).more (.cells (((stC (alT da dc (n + 1 + 1) (n + 1 + 1 + 1) ba bc ea ec)).setIfInBounds 11 (.slice (some ⟨(n + 1 + 1 + 1 + 1 + 1), 0, none⟩) 1 1)).setIfInBounds 8 (.int .i64 2)) 29)).more (.cells (efC efA) 55)
  have X2 : Row ((((((w3.alloc (.cells (stC (alR da dc oa oc ba bc ea ec)) 29)).alloc (.cells ((stC (alR da dc oa oc ba bc ea ec)).setIfInBounds 9 (.slice (some ⟨(n + 1 + 1 + 1), 0, none⟩) 1 1)) 29)).alloc (.cells #[.string ⟨#[120]⟩, .int .i64 1, .int .i64 0] 50)).alloc (.cells (orC ⟨odA, some ⟨(n + 1 + 1), 0, none⟩, 1⟩) 48)).alloc (.cells (((stC (alT da dc (n + 1 + 1) (n + 1 + 1 + 1) ba bc ea ec)).setIfInBounds 11 (.slice (some ⟨(n + 1 + 1 + 1 + 1 + 1), 0, none⟩) 1 1)).setIfInBounds 8 (.int .i64 2)) 29)).alloc (.cells (efC efA) 55)) (n + 1) 29 (stC (alT da dc (n + 1 + 1) (n + 1 + 1 + 1) ba bc ea ec)) := (R5.more (.cells (((stC (alT da dc (n + 1 + 1) (n + 1 + 1 + 1) ba bc ea ec)).setIfInBounds 11 (.slice (some ⟨(n + 1 + 1 + 1 + 1 + 1), 0, none⟩) 1 1)).setIfInBounds 8 (.int .i64 2)) 29)).more (.cells (efC efA) 55)
  have XL : Row ((((((w3.alloc (.cells (stC (alR da dc oa oc ba bc ea ec)) 29)).alloc (.cells ((stC (alR da dc oa oc ba bc ea ec)).setIfInBounds 9 (.slice (some ⟨(n + 1 + 1 + 1), 0, none⟩) 1 1)) 29)).alloc (.cells #[.string ⟨#[120]⟩, .int .i64 1, .int .i64 0] 50)).alloc (.cells (orC ⟨odA, some ⟨(n + 1 + 1), 0, none⟩, 1⟩) 48)).alloc (.cells (((stC (alT da dc (n + 1 + 1) (n + 1 + 1 + 1) ba bc ea ec)).setIfInBounds 11 (.slice (some ⟨(n + 1 + 1 + 1 + 1 + 1), 0, none⟩) 1 1)).setIfInBounds 8 (.int .i64 2)) 29)).alloc (.cells (efC efA) 55)) (n + 1 + 1) 50 #[.string ⟨#[120]⟩, .int .i64 1, .int .i64 0] := by
    have := ((Row.new ((w3.alloc (.cells (stC (alR da dc oa oc ba bc ea ec)) 29)).alloc (.cells ((stC (alR da dc oa oc ba bc ea ec)).setIfInBounds 9 (.slice (some ⟨(n + 1 + 1 + 1), 0, none⟩) 1 1)) 29)) #[.string ⟨#[120]⟩, .int .i64 1, .int .i64 0] 50).more (.cells (orC ⟨odA, some ⟨(n + 1 + 1), 0, none⟩, 1⟩) 48)).more (.cells (((stC (alT da dc (n + 1 + 1) (n + 1 + 1 + 1) ba bc ea ec)).setIfInBounds 11 (.slice (some ⟨(n + 1 + 1 + 1 + 1 + 1), 0, none⟩) 1 1)).setIfInBounds 8 (.int .i64 2)) 29)
    rw [show ((w3.alloc (.cells (stC (alR da dc oa oc ba bc ea ec)) 29)).alloc (.cells ((stC (alR da dc oa oc ba bc ea ec)).setIfInBounds 9 (.slice (some ⟨(n + 1 + 1 + 1), 0, none⟩) 1 1)) 29)).heap.size = (n + 1 + 1) by simp [hn]] at this
    exact this.more (.cells (efC efA) 55)
  have XO : SlP LO ((((((w3.alloc (.cells (stC (alR da dc oa oc ba bc ea ec)) 29)).alloc (.cells ((stC (alR da dc oa oc ba bc ea ec)).setIfInBounds 9 (.slice (some ⟨(n + 1 + 1 + 1), 0, none⟩) 1 1)) 29)).alloc (.cells #[.string ⟨#[120]⟩, .int .i64 1, .int .i64 0] 50)).alloc (.cells (orC ⟨odA, some ⟨(n + 1 + 1), 0, none⟩, 1⟩) 48)).alloc (.cells (((stC (alT da dc (n + 1 + 1) (n + 1 + 1 + 1) ba bc ea ec)).setIfInBounds 11 (.slice (some ⟨(n + 1 + 1 + 1 + 1 + 1), 0, none⟩) 1 1)).setIfInBounds 8 (.int .i64 2)) 29)).alloc (.cells (efC efA) 55)) (some ⟨(n + 1 + 1 + 1), 0, none⟩) 1 [⟨odA, some ⟨(n + 1 + 1), 0, none⟩, 1⟩] := by
    have h1 := SlP.one LO_ok (((w3.alloc (.cells (stC (alR da dc oa oc ba bc ea ec)) 29)).alloc (.cells ((stC (alR da dc oa oc ba bc ea ec)).setIfInBounds 9 (.slice (some ⟨(n + 1 + 1 + 1), 0, none⟩) 1 1)) 29)).alloc (.cells #[.string ⟨#[120]⟩, .int .i64 1, .int .i64 0] 50)) ⟨odA, some ⟨(n + 1 + 1), 0, none⟩, 1⟩
    rw [show (((w3.alloc (.cells (stC (alR da dc oa oc ba bc ea ec)) 29)).alloc (.cells ((stC (alR da dc oa oc ba bc ea ec)).setIfInBounds 9 (.slice (some ⟨(n + 1 + 1 + 1), 0, none⟩) 1 1)) 29)).alloc (.cells #[.string ⟨#[120]⟩, .int .i64 1, .int .i64 0] 50)).heap.size = (n + 1 + 1 + 1) by simp [hn]] at h1
    exact h1.below (((Below.refl _ _).alloc (Nat.le_refl _) (.cells (((stC (alT da dc (n + 1 + 1) (n + 1 + 1 + 1) ba bc ea ec)).setIfInBounds 11 (.slice (some ⟨(n + 1 + 1 + 1 + 1 + 1), 0, none⟩) 1 1)).setIfInBounds 8 (.int .i64 2)) 29)).alloc (by simp) (.cells (efC efA) 55))
  have X3 : Row ((((((w3.alloc (.cells (stC (alR da dc oa oc ba bc ea ec)) 29)).alloc (.cells ((stC (alR da dc oa oc ba bc ea ec)).setIfInBounds 9 (.slice (some ⟨(n + 1 + 1 + 1), 0, none⟩) 1 1)) 29)).alloc (.cells #[.string ⟨#[120]⟩, .int .i64 1, .int .i64 0] 50)).alloc (.cells (orC ⟨odA, some ⟨(n + 1 + 1), 0, none⟩, 1⟩) 48)).alloc (.cells (((stC (alT da dc (n + 1 + 1) (n + 1 + 1 + 1) ba bc ea ec)).setIfInBounds 11 (.slice (some ⟨(n + 1 + 1 + 1 + 1 + 1), 0, none⟩) 1 1)).setIfInBounds 8 (.int .i64 2)) 29)).alloc (.cells (efC efA) 55)) (n + 1 + 1 + 1 + 1) 29 (stC (alU da dc (n + 1 + 1) (n + 1 + 1 + 1) ba bc (n + 1 + 1 + 1 + 1 + 1))) := by
    have := (Row.new ((((w3.alloc (.cells (stC (alR da dc oa oc ba bc ea ec)) 29)).alloc (.cells ((stC (alR da dc oa oc ba bc ea ec)).setIfInBounds 9 (.slice (some ⟨(n + 1 + 1 + 1), 0, none⟩) 1 1)) 29)).alloc (.cells #[.string ⟨#[120]⟩, .int .i64 1, .int .i64 0] 50)).alloc (.cells (orC ⟨odA, some ⟨(n + 1 + 1), 0, none⟩, 1⟩) 48)) (((stC (alT da dc (n + 1 + 1) (n + 1 + 1 + 1) ba bc ea ec)).setIfInBounds 11 (.slice (some ⟨(n + 1 + 1 + 1 + 1 + 1), 0, none⟩) 1 1)).setIfInBounds 8 (.int .i64 2)) 29).more (.cells (efC efA) 55)
    rwa [show ((((w3.alloc (.cells (stC (alR da dc oa oc ba bc ea ec)) 29)).alloc (.cells ((stC (alR da dc oa oc ba bc ea ec)).setIfInBounds 9 (.slice (some ⟨(n + 1 + 1 + 1), 0, none⟩) 1 1)) 29)).alloc (.cells #[.string ⟨#[120]⟩, .int .i64 1, .int .i64 0] 50)).alloc (.cells (orC ⟨odA, some ⟨(n + 1 + 1), 0, none⟩, 1⟩) 48)).heap.size = (n + 1 + 1 + 1 + 1) by simp [hn]] at this
  have XE : SlP LE ((((((w3.alloc (.cells (stC (alR da dc oa oc ba bc ea ec)) 29)).alloc (.cells ((stC (alR da dc oa oc ba bc ea ec)).setIfInBounds 9 (.slice (some ⟨(n + 1 + 1 + 1), 0, none⟩) 1 1)) 29)).alloc (.cells #[.string ⟨#[120]⟩, .int .i64 1, .int .i64 0] 50)).alloc (.cells (orC ⟨odA, some ⟨(n + 1 + 1), 0, none⟩, 1⟩) 48)).alloc (.cells (((stC (alT da dc (n + 1 + 1) (n + 1 + 1 + 1) ba bc ea ec)).setIfInBounds 11 (.slice (some ⟨(n + 1 + 1 + 1 + 1 + 1), 0, none⟩) 1 1)).setIfInBounds 8 (.int .i64 2)) 29)).alloc (.cells (efC efA) 55)) (some ⟨(n + 1 + 1 + 1 + 1 + 1), 0, none⟩) 1 [efA] := by
    have h1 := SlP.one LE_ok (((((w3.alloc (.cells (stC (alR da dc oa oc ba bc ea ec)) 29)).alloc (.cells ((stC (alR da dc oa oc ba bc ea ec)).setIfInBounds 9 (.slice (some ⟨(n + 1 + 1 + 1), 0, none⟩) 1 1)) 29)).alloc (.cells #[.string ⟨#[120]⟩, .int .i64 1, .int .i64 0] 50)).alloc (.cells (orC ⟨odA, some ⟨(n + 1 + 1), 0, none⟩, 1⟩) 48)).alloc (.cells (((stC (alT da dc (n + 1 + 1) (n + 1 + 1 + 1) ba bc ea ec)).setIfInBounds 11 (.slice (some ⟨(n + 1 + 1 + 1 + 1 + 1), 0, none⟩) 1 1)).setIfInBounds 8 (.int .i64 2)) 29)) efA
    rwa [show (((((w3.alloc (.cells (stC (alR da dc oa oc ba bc ea ec)) 29)).alloc (.cells ((stC (alR da dc oa oc ba bc ea ec)).setIfInBounds 9 (.slice (some ⟨(n + 1 + 1 + 1), 0, none⟩) 1 1)) 29)).alloc (.cells #[.string ⟨#[120]⟩, .int .i64 1, .int .i64 0] 50)).alloc (.cells (orC ⟨odA, some ⟨(n + 1 + 1), 0, none⟩, 1⟩) 48)).alloc (.cells (((stC (alT da dc (n + 1 + 1) (n + 1 + 1 + 1) ba bc ea ec)).setIfInBounds 11 (.slice (some ⟨(n + 1 + 1 + 1 + 1 + 1), 0, none⟩) 1 1)).setIfInBounds 8 (.int .i64 2)) 29)).heap.size = (n + 1 + 1 + 1 + 1 + 1) by simp [hn]] at h1
  have BV : Below w3.heap.size w3 ((((((w3.alloc (.cells (stC (alR da dc oa oc ba bc ea ec)) 29)).alloc (.cells ((stC (alR da dc oa oc ba bc ea ec)).setIfInBounds 9 (.slice (some ⟨(n + 1 + 1 + 1), 0, none⟩) 1 1)) 29)).alloc (.cells #[.string ⟨#[120]⟩, .int .i64 1, .int .i64 0] 50)).alloc (.cells (orC ⟨odA, some ⟨(n + 1 + 1), 0, none⟩, 1⟩) 48)).alloc (.cells (((stC (alT da dc (n + 1 + 1) (n + 1 + 1 + 1) ba bc ea ec)).setIfInBounds 11 (.slice (some ⟨(n + 1 + 1 + 1 + 1 + 1), 0, none⟩) 1 1)).setIfInBounds 8 (.int .i64 2)) 29)).alloc (.cells (efC efA) 55)) := (((((Below.refl _ _).alloc (Nat.le_refl _) (.cells (stC (alR da dc oa oc ba bc ea ec)) 29)).alloc (by simp) (.cells ((stC (alR da dc oa oc ba bc ea ec)).setIfInBounds 9 (.slice (some ⟨(n + 1 + 1 + 1), 0, none⟩) 1 1)) 29)).alloc (by simp; omega) (.cells #[.string ⟨#[120]⟩, .int .i64 1, .int .i64 0] 50)).alloc (by simp; omega) (.cells (orC ⟨odA, some ⟨(n + 1 + 1), 0, none⟩, 1⟩) 48) |>.alloc (by simp; omega) (.cells (((stC (alT da dc (n + 1 + 1) (n + 1 + 1 + 1) ba bc ea ec)).setIfInBounds 11 (.slice (some ⟨(n + 1 + 1 + 1 + 1 + 1), 0, none⟩) 1 1)).setIfInBounds 8 (.int .i64 2)) 29)).alloc (by simp; omega) (.cells (efC efA) 55)
  have F := Lib.hid (AlI.mk X1 X2 X3 (al_parts hP BV XL XO XE) (B4.out.trans (BV.mono B4.out.size)) ((BV.cell (p := ⟨db, dq, none⟩) hdb).trans hd0) hda (Nat.lt_of_lt_of_le hdb BV.size))
  clear X1 X2 XL XO X3 XE BV hP hdb hd0
  have c5 := F.out.c5
  have l1 := F.out.l1
  have hd := F.out.hd
  clear hda
  go_wp2_with fail
  generalize ((((((w3.alloc (.cells (stC (alR da dc oa oc ba bc ea ec)) 29)).alloc (.cells ((stC (alR da dc oa oc ba bc ea ec)).setIfInBounds 9 (.slice (some ⟨(n + 1 + 1 + 1), 0, none⟩) 1 1)) 29)).alloc (.cells #[.string ⟨#[120]⟩, .int .i64 1, .int .i64 0] 50)).alloc (.cells (orC ⟨odA, some ⟨(n + 1 + 1), 0, none⟩, 1⟩) 48)).alloc (.cells (((stC (alT da dc (n + 1 + 1) (n + 1 + 1 + 1) ba bc ea ec)).setIfInBounds 11 (.slice (some ⟨(n + 1 + 1 + 1 + 1 + 1), 0, none⟩) 1 1)).setIfInBounds 8 (.int .i64 2)) 29)).alloc (.cells (efC efA) 55)) = V at *
  refine (CR.out _ V F.out.st.1 ⟨(by show 0 ≤ _; decide), (by show 0 ≤ _; decide), (by show 0 ≤ _; decide)⟩).mono ?_
  rintro e w5 ⟨rfl, b5⟩
  rw [show rightS (alR da dc oa oc ba bc ea ec).st = true from al_right.1]
  replace F := Lib.hid (F.out.below b5)
  clear c5 l1 hd b5
  have l2 := ld_sta F.out.two
  go_wp2_with fail
  refine (CR.out _ w5 F.out.st.2.1 ⟨(by show 1 ≤ _; decide), (by show 0 ≤ _; decide), (by show 0 ≤ _; decide)⟩).mono ?_
  rintro e w6 ⟨rfl, b6⟩
  rw [show rightS (alT da dc (n + 1 + 1) (n + 1 + 1 + 1) ba bc ea ec).st = false from al_right.2.1]
  replace F := Lib.hid (F.out.below b6)
  clear l2 b6
  have l3 := ld_sta F.out.three
  go_wp2_with fail
  refine (CR.out _ w6 F.out.st.2.2 ⟨(by show 1 ≤ _; decide), (by show 0 ≤ _; decide), (by show 1 ≤ _; decide)⟩).mono ?_
  rintro e w7 ⟨rfl, b7⟩
  rw [show rightS (alU da dc (n + 1 + 1) (n + 1 + 1 + 1) ba bc (n + 1 + 1 + 1 + 1 + 1)).st = true from al_right.2.2]
  replace F := Lib.hid (F.out.below b7)
  clear l3 b7
  go_wp2_with fail
  go_ret
  exact ⟨rfl, F.out.low⟩
end

/- StMust: Plain facts on effects: what must be asked is just what is asked. -/
section
set_option maxRecDepth 100000

/-- What is asked: a kind, an order, a batch. -/
abbrev Key : Type := Int × (List UInt8 × Int)
def keyE (e : Ef) : Key := (e.kind, e.order.toList, e.batch)
def keyO (o : Od) : Key := (asksN o.phase, o.id.toList, 0)
def keyB (b : Bt) : Key := (2 + b.kind, noT.toList, b.id)
/-- What must be asked. -/
def musts (os : List Od) (bs : List Bt) : List Key := (os.filter asksB).map keyO ++ (bs.filter outB).map keyB
theorem askP_key (kind : Int) (id : ByteArray) (batch : Int) (e : Ef) : askP kind id batch e = (keyE e == (kind, id.toList, batch)) := rfl
theorem askN_key (l : List Ef) (kind : Int) (id : ByteArray) (batch : Int) : askN l kind id batch = (l.map keyE).count (kind, id.toList, batch) := by
  unfold askN List.count
  rw [List.countP_map]
  rfl
theorem musts_len (os : List Od) (bs : List Bt) : (musts os bs).length = manyN os bs := by
  simp [musts, manyN, List.countP_eq_length_filter]
theorem toList_inj {a b : ByteArray} (h : a.toList = b.toList) : a = b := (toList_iff a b).1 (by rw [h]; simp)
theorem right_id {o : Od} (h : rightO o = true) : o.id ≠ noT := by
  intro e
  simp only [rightO, Bool.and_eq_true] at h
  have := h.1.1.1.1.1.1
  rw [e] at this
  exact absurd this (by decide +kernel)
theorem musts_nodup {os : List Od} {bs : List Bt} (ho : os.Pairwise (fun x y => kcmp x.id y.id < 0)) (hb : bs.Pairwise (fun x y => x.id < y.id)) (hr : ∀ o ∈ os, rightO o = true) : (musts os bs).Nodup := by
  unfold musts
  rw [List.nodup_append]
  refine ⟨?_, ?_, ?_⟩
  · rw [List.nodup_iff_pairwise_ne, List.pairwise_map]
    refine (ho.filter asksB).imp (fun {x y} hxy e => ?_)
    simp only [keyO, Prod.mk.injEq] at e
    have := toList_inj e.2.1
    rw [this, kcmp_self] at hxy
    omega
  · rw [List.nodup_iff_pairwise_ne, List.pairwise_map]
    refine (hb.filter outB).imp (fun {x y} hxy e => ?_)
    simp only [keyB, Prod.mk.injEq] at e
    omega
  · intro a ha b hb2 e
    obtain ⟨o, ho2, rfl⟩ := List.mem_map.1 ha
    obtain ⟨x, hx, rfl⟩ := List.mem_map.1 hb2
    simp only [keyO, keyB, Prod.mk.injEq] at e
    exact right_id (hr o (List.mem_filter.1 ho2).1) (toList_inj e.2.1)
theorem count_one {α : Type} [BEq α] [LawfulBEq α] {m : α} : ∀ {M : List α}, M.Nodup → m ∈ M → M.count m = 1
  | [], _, h => by simp at h
  | x :: r, hn, h => by
    rw [List.nodup_cons] at hn
    by_cases e : m = x
    · subst e
      rw [List.count_cons_self, List.count_eq_zero_of_not_mem hn.1]
    · rcases List.mem_cons.1 h with h | h
      · exact absurd h e
      · rw [List.count_cons_of_ne (fun e2 => e e2.symm)]
        exact count_one hn.2 h
/-- So many, each once: just those. -/
theorem perm_of_counts {α : Type} [BEq α] [LawfulBEq α] : ∀ (M K : List α), M.Nodup → (∀ m ∈ M, K.count m = 1) → K.length = M.length → K.Perm M
  | [], K, _, _, hl => by
    have : K = [] := List.eq_nil_of_length_eq_zero (by simpa using hl)
    rw [this]
  | m :: M, K, hn, hc, hl => by
    rw [List.nodup_cons] at hn
    have hm : m ∈ K := by
      have := hc m (by simp)
      exact List.count_pos_iff.1 (by omega)
    have hp := List.perm_cons_erase hm
    refine hp.trans (List.Perm.cons m (perm_of_counts M (K.erase m) hn.2 (fun x hx => ?_) ?_))
    · have hne : x ≠ m := fun e => hn.1 (e ▸ hx)
      rw [List.count_erase_of_ne hne]
      exact hc x (by simp [hx])
    · rw [List.length_erase_of_mem hm, hl]
      simp
theorem effsOk_iff {os : List Od} {bs : List Bt} (l : List Ef) (nk : Int) (hn : (musts os bs).Nodup) :
    effsOk os bs l nk = true ↔ (l.map keyE).Perm (musts os bs) ∧ (∀ e ∈ l, e.key < nk) ∧ rightE l = true := by
  unfold effsOk
  simp only [Bool.and_eq_true, List.all_eq_true, decide_eq_true_eq]
  constructor
  · rintro ⟨h1, h2, h3, h4, h5⟩
    refine ⟨perm_of_counts _ _ hn (fun m hm => ?_) (by rw [List.length_map, musts_len, h4]), h3, h5⟩
    unfold musts at hm
    rcases List.mem_append.1 hm with hm | hm
    · obtain ⟨o, ho, rfl⟩ := List.mem_map.1 hm
      obtain ⟨ho, ha⟩ := List.mem_filter.1 ho
      have := h1 o ho
      unfold needO at this
      have hz : (asksN o.phase == 0) = false := by simpa [asksB, bne] using ha
      rw [hz, Bool.false_or, beq_iff_eq, askN_key] at this
      exact this
    · obtain ⟨b, hb, rfl⟩ := List.mem_map.1 hm
      obtain ⟨hb, ha⟩ := List.mem_filter.1 hb
      have := h2 b hb
      unfold needB at this
      have hz : (b.phase != 2) = false := by simpa [outB, bne] using ha
      rw [hz, Bool.false_or, beq_iff_eq, askN_key] at this
      exact this
  · rintro ⟨hp, h3, h5⟩
    have hcnt : ∀ m ∈ musts os bs, (l.map keyE).count m = 1 := fun m hm => by rw [hp.count_eq, count_one hn hm]
    refine ⟨fun o ho => ?_, fun b hb => ?_, h3, ?_, h5⟩
    · unfold needO
      cases hz : (asksN o.phase == 0) with
      | true => rfl
      | false =>
        rw [Bool.false_or, beq_iff_eq, askN_key]
        exact hcnt (keyO o) (List.mem_append_left _ (List.mem_map_of_mem (List.mem_filter.2 ⟨ho, by simp only [asksB, bne, hz]; rfl⟩)))
    · unfold needB
      cases hz : (b.phase != 2) with
      | true => rfl
      | false =>
        rw [Bool.false_or, beq_iff_eq, askN_key]
        exact hcnt (keyB b) (List.mem_append_right _ (List.mem_map_of_mem (List.mem_filter.2 ⟨hb, by simpa [outB, bne] using hz⟩)))
    · have := hp.length_eq
      rw [List.length_map, musts_len] at this
      exact this.symm
end

/- StCount: Plain facts on counting what is needed against what is asked. -/
section
set_option maxRecDepth 100000

/-- How many more are needed of a kind than have been asked for. -/
def cntF (M K : List Key) (x : Key) : Int := (M.count x : Int) - (K.count x : Int)
theorem cntF_snoc (M K : List Key) (y x : Key) : cntF M (K ++ [y]) x = if y = x then cntF M K x - 1 else cntF M K x := by
  unfold cntF
  rw [List.count_append, List.count_singleton]
  by_cases h : y = x
  · subst h
    simp
    omega
  · have : (y == x) = false := by simpa using h
    rw [this, if_neg h]
    simp
theorem cnt_snoc (M : List Key) (y x : Key) : ((M ++ [y]).count x : Int) = if y = x then (M.count x : Int) + 1 else (M.count x : Int) := by
  rw [List.count_append, List.count_singleton]
  by_cases h : y = x
  · subst h
    simp
  · have : (y == x) = false := by simpa using h
    rw [this, if_neg h]
    simp
theorem cnt_le (M : List Key) (x : Key) : M.count x ≤ M.length := List.count_le_length
theorem perm_of_cnt {M K : List Key} (h1 : ∀ x, 0 ≤ cntF M K x) (h2 : ∀ x, cntF M K x ≤ 0) : K.Perm M := by
  refine List.perm_iff_count.2 fun x => ?_
  have a := h1 x
  have b := h2 x
  unfold cntF at a b
  omega
theorem not_perm_short {M K : List Key} {x : Key} (h : 0 < cntF M K x) : ¬ K.Perm M := by
  intro hp
  have := List.perm_iff_count.1 hp x
  unfold cntF at h
  omega
theorem not_perm_zero {M A B : List Key} {y : Key} (h : cntF M A y = 0) : ¬ (A ++ y :: B).Perm M := by
  intro hp
  have := List.perm_iff_count.1 hp y
  rw [List.count_append, List.count_cons_self] at this
  unfold cntF at h
  omega
/-- What is needed by the first so many. -/
def mustsK (os : List Od) (bs : List Bt) (j k : Nat) : List Key := musts (os.take j) (bs.take k)
theorem mustsK_all (os : List Od) (bs : List Bt) : mustsK os bs os.length bs.length = musts os bs := by simp [mustsK]
theorem mustsK_o {os : List Od} (bs : List Bt) {j : Nat} (h : j < os.length) : mustsK os bs (j + 1) 0 = if asksB os[j] then mustsK os bs j 0 ++ [keyO os[j]] else mustsK os bs j 0 := by
  unfold mustsK musts
  rw [List.take_succ_eq_append_getElem h, List.filter_append, List.map_append]
  cases hq : asksB os[j] with
  | true => simp [hq]
  | false => simp [hq]
theorem mustsK_b (os : List Od) {bs : List Bt} (j : Nat) {k : Nat} (h : k < bs.length) : mustsK os bs j (k + 1) = if outB bs[k] then mustsK os bs j k ++ [keyB bs[k]] else mustsK os bs j k := by
  unfold mustsK musts
  rw [List.take_succ_eq_append_getElem h, List.filter_append, List.map_append]
  cases hq : outB bs[k] with
  | true => simp [hq]
  | false => simp [hq]
theorem mustsK_len (os : List Od) (bs : List Bt) (j k : Nat) : (mustsK os bs j k).length ≤ os.length + bs.length := by
  unfold mustsK musts
  rw [List.length_append, List.length_map, List.length_map]
  have h1 := List.length_filter_le asksB (os.take j)
  have h2 := List.length_filter_le outB (bs.take k)
  rw [List.length_take] at h1 h2
  omega

/-- The last key is the greatest. -/
theorem rightE_last {l : List Ef} (h : rightE l = true) (nk : Int) : (∀ e ∈ l, e.key < nk) ↔ ∀ (hne : l ≠ []), (l.getLast hne).key < nk := by
  obtain ⟨_, hp⟩ := (rightE_iff l).1 h
  constructor
  · exact fun h hne => h _ (List.getLast_mem hne)
  · intro hl e he
    have hne : l ≠ [] := by intro e2; subst e2; simp at he
    have h2 := hl hne
    obtain ⟨i, hi, rfl⟩ := List.getElem_of_mem he
    have hlast : l.getLast hne = l[l.length - 1]'(by have := List.length_pos_iff.2 hne; omega) := List.getLast_eq_getElem hne
    rw [hlast] at h2
    by_cases hi2 : i = l.length - 1
    · subst hi2
      exact h2
    · have := List.pairwise_iff_getElem.1 hp i (l.length - 1) (by simpa using hi) (by simp; omega) (by omega)
      simp only [List.getElem_map] at this
      omega
end

/- StBreak: Plain facts: a state that hangs together doesn't any more without one of its effects, or with an order in the next phase. -/
section
set_option maxRecDepth 100000

/-- Without an effect. -/
def dropEf (s : St) (k : Nat) : St := ⟨s.waves, s.mans, s.limit, s.doors, s.now, s.nb, s.nk, s.ords, s.bats, s.effs.take k ++ s.effs.drop (k + 1)⟩
theorem many_is {os : List Od} {bs : List Bt} {l : List Ef} {nk : Int} (h : effsOk os bs l nk = true) : manyN os bs = l.length := by
  simp only [effsOk, Bool.and_eq_true, decide_eq_true_eq] at h
  exact h.2.2.2.1
theorem break_eff {s : St} (h : rightS s = true) {k : Nat} (hk : k < s.effs.length) : rightS (dropEf s k) = false := by
  cases hr : rightS (dropEf s k) with
  | false => rfl
  | true =>
    exfalso
    have h1 := many_is (hung_of h).effs
    have h2 : manyN s.ords s.bats = (s.effs.take k ++ s.effs.drop (k + 1)).length := many_is (hung_of hr).effs
    rw [List.length_append, List.length_take, List.length_drop] at h2
    omega
/-- With an order in another phase. -/
def atPhase (o : Od) (p : Int) : Od := ⟨o.id, o.ls, o.car, o.zone, o.serv, o.total, p, o.given, o.ref, o.batch⟩
def withO (s : St) (k : Nat) (o : Od) : St := ⟨s.waves, s.mans, s.limit, s.doors, s.now, s.nb, s.nk, s.ords.set k o, s.bats, s.effs⟩
theorem rightO_batch {o : Od} (h : rightO o = true) : decide (o.batch ≠ 0) = batchedB o.phase := by
  simp only [rightO, Bool.and_eq_true, beq_iff_eq] at h
  exact h.2
theorem findB_mem {l : List Bt} {id : Int} (h : (findB l id).isSome = true) : batchV l id ∈ l ∧ (batchV l id).id = id := by
  unfold batchV
  cases hf : findB l id with
  | none => rw [hf] at h; cases h
  | some b =>
    unfold findB at hf
    exact ⟨List.mem_of_find?_eq_some hf, by simpa using List.find?_some hf⟩
theorem memOk_phase {l : List Od} {b : Bt} {id : ByteArray} (h : memOk l b id = true) : (orderV l id).phase = insideN b.kind b.phase := by
  simp only [memOk, Bool.and_eq_true, beq_iff_eq] at h
  exact h.2.2.2
theorem hasT_mem {l : List ByteArray} {x : ByteArray} (h : hasT l x = true) : x ∈ l := by
  unfold hasT at h
  rw [List.any_eq_true] at h
  obtain ⟨y, hy, e⟩ := h
  rw [← (toList_iff y x).1 e]
  exact hy
/-- Who is in a batch has its phase. -/
theorem HungP.inside {s : St} (h : HungP s) {o : Od} (ho : o ∈ s.ords) (hb : o.batch ≠ 0) : o.phase = insideN (batchV s.bats o.batch).kind (batchV s.bats o.batch).phase := by
  have hh := h.held o ho
  unfold heldIn at hh
  rw [beq_eq_false_iff_ne.2 hb, Bool.false_or, Bool.and_eq_true] at hh
  obtain ⟨hs, hm⟩ := hh
  obtain ⟨hmem, _⟩ := findB_mem hs
  have hk := h.ok _ hmem
  simp only [batchOk, Bool.and_eq_true, List.all_eq_true] at hk
  have hp := memOk_phase (hk.2.2.2.2.2 o.id (hasT_mem hm))
  unfold orderV at hp
  rw [findO_self h.ords ho] at hp
  exact hp
theorem break_phase {s : St} (h : rightS s = true) {k : Nat} (hk : k < s.ords.length) (h2 : rightS (withO s k (atPhase s.ords[k] (s.ords[k].phase % 12 + 1))) = true) : s.ords[k].phase = 11 := by
  have H := hung_of h
  have H2 := hung_of h2
  have hm : s.ords[k] ∈ s.ords := List.getElem_mem hk
  have hm2 : atPhase s.ords[k] (s.ords[k].phase % 12 + 1) ∈ s.ords.set k (atPhase s.ords[k] (s.ords[k].phase % 12 + 1)) := List.mem_iff_getElem.2 ⟨k, by simpa using hk, by simp⟩
  have r1 := H.right _ hm
  have r2 := H2.right _ hm2
  have p1 := rightO_phase r1
  have b1 := rightO_batch r1
  have b2 : decide (s.ords[k].batch ≠ 0) = batchedB (s.ords[k].phase % 12 + 1) := rightO_batch r2
  have n1 := many_is H.effs
  have n2 : manyN (s.ords.set k (atPhase s.ords[k] (s.ords[k].phase % 12 + 1))) s.bats = s.effs.length := many_is H2.effs
  have hcs : (s.ords.set k (atPhase s.ords[k] (s.ords[k].phase % 12 + 1))).countP asksB = s.ords.countP asksB - (if asksB s.ords[k] then 1 else 0) + (if asksB (atPhase s.ords[k] (s.ords[k].phase % 12 + 1)) then 1 else 0) := List.countP_set hk
  have hpos : asksB s.ords[k] = true → 0 < s.ords.countP asksB := fun ha => List.countP_pos_iff.2 ⟨_, hm, ha⟩
  have i1 : s.ords[k].batch ≠ 0 → s.ords[k].phase = insideN (batchV s.bats s.ords[k].batch).kind (batchV s.bats s.ords[k].batch).phase := H.inside hm
  have i2 : s.ords[k].batch ≠ 0 → s.ords[k].phase % 12 + 1 = insideN (batchV s.bats s.ords[k].batch).kind (batchV s.bats s.ords[k].batch).phase := H2.inside hm2
  have e1 := (effsOk_iff s.effs s.nk (musts_nodup H.ords H.bats H.right)).1 H.effs
  have e2 := (effsOk_iff s.effs s.nk (musts_nodup H2.ords H2.bats H2.right)).1 H2.effs
  have hperm : (musts (s.ords.set k (atPhase s.ords[k] (s.ords[k].phase % 12 + 1))) s.bats).Perm (musts s.ords s.bats) := e2.1.symm.trans e1.1
  have hkey : asksB (atPhase s.ords[k] (s.ords[k].phase % 12 + 1)) = true → asksN (s.ords[k].phase % 12 + 1) = asksN s.ords[k].phase := by
    intro ha
    have hin : keyO (atPhase s.ords[k] (s.ords[k].phase % 12 + 1)) ∈ musts (s.ords.set k (atPhase s.ords[k] (s.ords[k].phase % 12 + 1))) s.bats := List.mem_append_left _ (List.mem_map_of_mem (List.mem_filter.2 ⟨hm2, ha⟩))
    have hin2 := hperm.mem_iff.1 hin
    rcases List.mem_append.1 hin2 with hx | hx
    · obtain ⟨x, hx, e⟩ := List.mem_map.1 hx
      simp only [keyO, atPhase, Prod.mk.injEq] at e
      have hid := toList_inj e.2.1
      have hf := findO_self H.ords (List.mem_filter.1 hx).1
      rw [hid, findO_self H.ords hm] at hf
      injection hf with hf
      have hph : x.phase = s.ords[k].phase := congrArg Od.phase hf.symm
      rw [hph] at e
      exact e.1.symm
    · obtain ⟨x, _, e⟩ := List.mem_map.1 hx
      simp only [keyO, keyB, atPhase, Prod.mk.injEq] at e
      exact absurd (toList_inj e.2.1).symm (right_id r1)
  clear H H2 hm hm2 r1 r2 e1 e2 hperm h h2
  unfold manyN at n1 n2
  rw [hcs] at n2
  generalize s.ords.countP asksB = c at *
  generalize s.bats.countP outB = d at *
  have hask : ∀ q, asksB (atPhase s.ords[k] q) = (asksN q != 0) := fun _ => rfl
  have hask1 : asksB s.ords[k] = (asksN s.ords[k].phase != 0) := rfl
  rw [hask] at n2 hkey
  rw [hask1] at n2 hpos
  clear hcs hask hask1
  have hp : s.ords[k].phase = 1 ∨ s.ords[k].phase = 2 ∨ s.ords[k].phase = 3 ∨ s.ords[k].phase = 4 ∨ s.ords[k].phase = 5 ∨ s.ords[k].phase = 6 ∨ s.ords[k].phase = 7 ∨ s.ords[k].phase = 8 ∨ s.ords[k].phase = 9 ∨ s.ords[k].phase = 10 ∨ s.ords[k].phase = 11 ∨ s.ords[k].phase = 12 := by omega
  generalize s.ords[k].phase = p at *
  generalize s.ords[k].batch = bt at *
  rcases hp with rfl | rfl | rfl | rfl | rfl | rfl | rfl | rfl | rfl | rfl | rfl | rfl
  · exact absurd (hkey (by decide)) (by decide)
  · rw [b1] at b2; exact absurd b2 (by decide)
  · have hb : bt ≠ 0 := by have : decide (bt ≠ 0) = true := b1; simpa using this
    have := i1 hb; have := i2 hb; omega
  · have hb : bt ≠ 0 := by have : decide (bt ≠ 0) = true := b1; simpa using this
    have := i1 hb; have := i2 hb; omega
  · have hb : bt ≠ 0 := by have : decide (bt ≠ 0) = true := b1; simpa using this
    have := i1 hb; have := i2 hb; omega
  · rw [b1] at b2; exact absurd b2 (by decide)
  · have h1 := hpos (by decide)
    simp [asksN] at n2
    omega
  · simp [asksN] at n2
    omega
  · exact absurd (hkey (by decide)) (by decide)
  · have h1 := hpos (by decide)
    simp [asksN] at n2
    omega
  · rfl
  · simp [asksN] at n2
    omega
end

/- StHeld: Rows of numbers of 64 bits of the call's own; what the document's Held of layer 15 answers. -/
section
set_option maxRecDepth 100000
open Go.RowKit Go.ChangeShapes Go.WideShapes Go.ChangeAt
attribute [local go_sem ↓] ldOr stOr alOr bxOr bdOr ldBa stBa alBa bxBa bdBa ldSt stSt alSt bxSt bdSt ldEf stEf alEf bxEf eqEf bdEf bsEf ldGr bxGr eqGr ldCa bxCa eqCa
attribute [local go_sem] al_or bx_or st_ornew bd_or al_ba bx_ba st_banew bd_ba al_sta bx_sta st_stnew bd_sta al_ef bx_ef st_new bd_ef bs_ef bs_ef0 bx_gr ne_gr bx_ca ne_ca eq_grX

theorem Try.info2 : (Try.prog.info? 2).map (fun i => (i.zero, i.size, i.bytes)) = some (some (.int .i64 0), 1, 8) := by kernel_rfl
/-- A slice that is a row of its call's own, from block base on. -/
def OwnJ (w : World) (base : Nat) (v : Value) (ls : List Int) : Prop := w.ownsRow base 2 1 v ls.length (ls.map iv)
theorem OwnJ.nums {w : World} {base : Nat} {v : Value} {ls : List Int} (h : OwnJ w base v ls) : ∃ a cap, v = .slice a ls.length cap ∧ Ints8P w a cap ls := by
  rcases h.2 with ⟨rfl, h0⟩ | ⟨g, cap, cur, rfl, h1, h2, h3, h4, h5, h6⟩
  · have := List.eq_nil_of_length_eq_zero h0
    subst this
    exact ⟨none, 0, rfl, ⟨by simp, fun h => absurd rfl h⟩⟩
  · refine ⟨_, cap, rfl, h3, fun _ => ⟨g, 0, rfl, ?_, fun j x hj => ?_⟩⟩
    · exact (Array.getElem?_eq_some_iff.1 h2).1
    · have hj : (cur.toList.take (ls.length * 1))[j]? = some (iv x) := by rw [h6, List.getElem?_map, hj]; rfl
      rw [List.getElem?_take] at hj
      split at hj
      · simp only [Array.getElem?_toList] at hj
        simp [World.cell?, h2, hj]
      · cases hj
theorem OwnJ.below {w w' : World} {base : Nat} {v : Value} {ls : List Int} (h : OwnJ w base v ls) (hb : Below w.heap.size w w') : OwnJ w' base v ls := by
  refine ⟨h.1, ?_⟩
  rcases h.2 with h1 | ⟨g, cap, cur, e, h1, h2, h3⟩
  · exact .inl h1
  · exact .inr ⟨g, cap, cur, e, h1, (hb.block g (Array.getElem?_eq_some_iff.1 h2).1).trans h2, h3⟩
theorem OwnJ.nil (w : World) (base : Nat) : OwnJ w base (.slice none 0 0) [] := ⟨rfl, .inl ⟨rfl, rfl⟩⟩
theorem OwnJ.fresh (w : World) (base : Nat) (hb : base ≤ w.heap.size) : OwnJ (w.alloc (.cells #[] 2)) base (.slice (some ⟨w.heap.size, 0, none⟩) 0 0) [] :=
  ⟨rfl, .inr ⟨w.heap.size, 0, #[], rfl, hb, heap_alloc_new w _, by simp, by unfold maxLen; omega, rfl, rfl⟩⟩
theorem OwnJ.block {w : World} {base : Nat} {v : Value} {ls : List Int} (h : OwnJ w base v ls) : ∀ k, v.ownBlock = some k → base ≤ k := by
  intro k hk
  rcases h.2 with ⟨rfl, _⟩ | ⟨g, cap, cur, rfl, h1, _⟩
  · simp [Value.ownBlock] at hk
  · simp [Value.ownBlock] at hk
    omega
theorem heldV_take (l : List BtR) (kind : Int) (a b c : ByteArray) (k : Nat) (h : k < l.length) : heldV (btsOf (l.take (k + 1))) kind a b c = heldV (btsOf (l.take k)) kind a b c ++ if heldP kind a b c l[k].b then [l[k].b.id] else [] := by
  rw [List.take_succ_eq_append_getElem h]
  unfold heldV btsOf
  rw [List.map_append, List.filter_append, List.map_append]
  congr 1
  simp only [List.map_cons, List.map_nil, List.filter_cons, List.filter_nil]
  split <;> rfl
theorem heldV_len (l : List BtR) (kind : Int) (a b c : ByteArray) : (heldV (btsOf l) kind a b c).length ≤ l.length := by
  unfold heldV btsOf
  rw [List.length_map]
  exact Nat.le_trans (List.length_filter_le _ _) (by simp)
theorem aggGr2 (W : World) (a b c : ByteArray) {g : Nat} (h : Row W g 44 (grC a b c)) : LdX 44 (.pointer (some ⟨g, 0, none⟩)) W = .ok (.value (grV a b c)) W := ld_grAt (h.cell 0) (h.cell 1) (h.cell 2)

theorem FoI.keep {w W W' : World} {r : StR} {T : TypeId} {cs : Array Value} (h : FoI w r T cs W) (hs : StP w r) (b : Below (w.heap.size + 1 + 1) W W') : FoI w r T cs W' := by
  have hl : Below w.heap.size w W' := h.low.trans (b.mono (by omega))
  exact ⟨(b.block _ (by omega)).trans h.box, (b.block _ (by omega)).trans h.res, hs.below hl, hl⟩
end

end Go.Proofs.Ytaghbfnikcldiaa
