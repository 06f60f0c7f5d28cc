/- Package state: each of its own, right or not. -/
import Derived.Test.YtfmpibmhhfmajaaGreatDoorMgStates
import Derived.Test.YtfmpibmhhfmajaaGreatDoorPDy
import Derived.Test.YtfmpibmhhfmajaaGreatDoorMgLines
import Derived.Test.YtfmpibmhhfmajaaGreatDoorMgBatches
import Derived.Test.YtfmpibmhhfmajaaGreatDoorMgEffects
namespace Go.Proofs.YtfmpibmhhfmajaaGreatDoor
/- StPr1: What package state's own small functions answer; who is found, what they weigh. -/
section
set_option maxRecDepth 100000
open Go.RowKit Go.ChangeShapes Go.WideShapes Go.ChangeAt
attribute [local go_sem ↓] ldOr stOr alOr bxOr bdOr ldBa stBa alBa bxBa bdBa ldSt stSt alSt bxSt bdSt ldEf stEf alEf bxEf eqEf bdEf bsEf ldGr bxGr eqGr ldCa bxCa eqCa
attribute [local go_sem] al_or bx_or st_ornew bd_or al_ba bx_ba st_banew bd_ba al_sta bx_sta st_stnew bd_sta al_ef bx_ef st_new bd_ef bs_ef bs_ef0 bx_gr ne_gr bx_ca ne_ca eq_caX eq_grX

set_option maxHeartbeats 1000000 in
theorem isLimit_any (n : Int) (w : World) : Calls Tryz.prog 79 #[.int .i64 n] w (BoolSame (limitB n) w) := by
  have HE := Lib.hid (limitB_two n)
  cases h1 : decide (1 ≤ n) <;> cases h2 : decide (n ≤ 100)
  all_goals
    rw [h1, h2] at HE
    go_enter Tryz.func79, Tryz.ntmps79
    go_wp2_with fail
    go_ret
    exact ⟨by rw [HE.out]; rfl, rfl⟩
set_option maxHeartbeats 1000000 in
theorem isNext_any (n : Int) (w : World) : Calls Tryz.prog 82 #[.int .i64 n] w (BoolSame (aboveB n) w) := by
  have HE := Lib.hid (show aboveB n = (decide (0 < n) && tallyB n) by rw [Bool.eq_iff_iff]; simp [aboveB, tallyB]; omega)
  have C := Lib.hid (tally_any n w)
  cases h1 : decide (0 < n) <;> cases h2 : tallyB n
  all_goals
    rw [h1, h2] at HE
    rw [h2] at C
    clear h2
    go_enter Tryz.func82, Tryz.ntmps82
    go_wp2_with (go_at_call 38; refine C.out.mono ?_; rintro e w' ⟨rfl, rfl⟩)
    go_ret
    exact ⟨by rw [HE.out]; rfl, rfl⟩
set_option maxHeartbeats 1000000 in
theorem areDoorsS_any (a : Option Addr) (cap : Nat) (l : List Int) (w : World) (h : IntsP w a cap l) (hm : l.length ≤ maxLen) : Calls Tryz.prog 80 #[.slice a l.length cap] w (Tell (fitsB l) w) := by
  have C := Lib.hid (passed_any a cap l 0 0 w h hm)
  have HE := Lib.hid (show passE l 0 0 = if fitsB l then 0 else 31 by
    unfold passE passOk
    rw [show dyRightB 0 = true by decide]
    cases fitsB l <;> rfl)
  clear h
  generalize passV l 0 0 = v at *
  generalize passE l 0 0 = n at *
  cases hf : fitsB l with
  | false =>
    have hn : n = 31 := by rw [HE.out, hf]; rfl
    subst hn
    clear HE hf
    go_enter Tryz.func80, Tryz.ntmps80
    go_wp2_with fail
    refine C.out.mono ?_
    rintro e w1 ⟨rfl, b1⟩
    go_wp2_with fail
    go_ret
    exact ⟨rfl, b1⟩
  | true =>
    have hn : n = 0 := by rw [HE.out, hf]; rfl
    subst hn
    clear HE hf
    go_enter Tryz.func80, Tryz.ntmps80
    go_wp2_with fail
    refine C.out.mono ?_
    rintro e w1 ⟨rfl, b1⟩
    go_wp2_with fail
    go_ret
    exact ⟨rfl, b1⟩

/-- Where the first of a kind lies, in a slice whose elements have n cells. -/
def ptrG {α : Type} (n : Nat) (p : α → Bool) (a : Option Addr) (l : List α) : Option Addr :=
  match a, l.findIdx? p with
  | some ⟨b, o, _⟩, some j => some ⟨b, o + j * n, none⟩
  | _, _ => none
theorem ptrG_at {α : Type} {n b o : Nat} {p : α → Bool} {l : List α} {k : Nat} (hk : k < l.length) (hp : p l[k] = true) (hb : ∀ j (h : j < k), p (l[j]'(Nat.lt_trans h hk)) = false) : ptrG n p (some ⟨b, o, none⟩) l = some ⟨b, o + k * n, none⟩ := by
  have : l.findIdx? p = some k := List.findIdx?_eq_some_iff_getElem.2 ⟨hk, hp, fun j hj => by simp [hb j hj]⟩
  simp [ptrG, this]
theorem ptrG_none {α : Type} {n : Nat} {p : α → Bool} {l : List α} (a : Option Addr) (h : ∀ j (h : j < l.length), p l[j] = false) : ptrG n p a l = none := by
  have : l.findIdx? p = none := List.findIdx?_eq_none_iff.2 (fun x hx => by obtain ⟨j, hj, rfl⟩ := List.getElem_of_mem hx; exact h j hj)
  cases a <;> simp [ptrG, this]
theorem first_or {α : Type} (p : α → Bool) (l : List α) : (∀ j (h : j < l.length), p l[j] = false) ∨ ∃ k, ∃ h : k < l.length, p l[k] = true ∧ ∀ j (hj : j < k), p (l[j]'(Nat.lt_trans hj h)) = false := by
  cases h : l.findIdx? p with
  | none => exact .inl fun j hj => List.findIdx?_eq_none_iff.1 h _ (List.getElem_mem hj)
  | some k =>
    obtain ⟨hk, hp, hb⟩ := List.findIdx?_eq_some_iff_getElem.1 h
    exact .inr ⟨k, hk, hp, fun j hj => by simpa using hb j hj⟩
def isO (id : ByteArray) (r : OdR) : Bool := r.o.id.toList == id.toList
def isB (id : Int) (r : BtR) : Bool := r.b.id == id
theorem findO_none {l : List OdR} {id : ByteArray} (h : ∀ j (h : j < l.length), isO id l[j] = false) : findO (odsOf l) id = none := by
  unfold findO odsOf
  rw [List.find?_eq_none]
  intro x hx
  obtain ⟨r, hr, rfl⟩ := List.mem_map.1 hx
  obtain ⟨j, hj, rfl⟩ := List.getElem_of_mem hr
  have := h j hj
  unfold isO at this
  rw [this]
  decide
theorem findB_none {l : List BtR} {id : Int} (h : ∀ j (h : j < l.length), isB id l[j] = false) : findB (btsOf l) id = none := by
  unfold findB btsOf
  rw [List.find?_eq_none]
  intro x hx
  obtain ⟨r, hr, rfl⟩ := List.mem_map.1 hx
  obtain ⟨j, hj, rfl⟩ := List.getElem_of_mem hr
  have := h j hj
  unfold isB at this
  rw [this]
  decide
theorem findO_at {l : List OdR} {id : ByteArray} {k : Nat} (hk : k < l.length) (hp : isO id l[k] = true) (hb : ∀ j (h : j < k), isO id (l[j]'(Nat.lt_trans h hk)) = false) : findO (odsOf l) id = some l[k].o := by
  have key : ∀ j, j ≤ k → findO (odsOf l) id = findO (odsOf (l.drop j)) id := by
    intro j
    induction j with
    | zero => intro _; rfl
    | succ j ih =>
      intro hj
      rw [ih (by omega), findO_drop l id j (by omega)]
      have := hb j (by omega)
      unfold isO at this
      rw [this]
      rfl
  rw [key k (Nat.le_refl _), findO_drop l id k hk]
  unfold isO at hp
  rw [hp]
  rfl
theorem findB_at {l : List BtR} {id : Int} {k : Nat} (hk : k < l.length) (hp : isB id l[k] = true) (hb : ∀ j (h : j < k), isB id (l[j]'(Nat.lt_trans h hk)) = false) : findB (btsOf l) id = some l[k].b := by
  have key : ∀ j, j ≤ k → findB (btsOf l) id = findB (btsOf (l.drop j)) id := by
    intro j
    induction j with
    | zero => intro _; rfl
    | succ j ih =>
      intro hj
      rw [ih (by omega), findB_drop l id j (by omega)]
      have := hb j (by omega)
      unfold isB at this
      rw [this]
      rfl
  rw [key k (Nat.le_refl _), findB_drop l id k hk]
  unfold isB at hp
  rw [hp]
  rfl

theorem orderId_any (b o : Nat) (s : ByteArray) (w : World) (hc : w.cell? ⟨b, o, none⟩ = some (.string s)) : Calls Tryz.prog 156 #[.pointer (some ⟨b, o, none⟩)] w fun e w' => e = .returned (.string s) ∧ w = w' := by
  go_enter Tryz.func156, Tryz.ntmps156
  go_wp2_with fail
  go_ret
  exact ⟨rfl, rfl⟩
theorem batchId_any (b o : Nat) (n : Int) (w : World) (hc : w.cell? ⟨b, o, none⟩ = some (.int .i64 n)) : Calls Tryz.prog 126 #[.pointer (some ⟨b, o, none⟩)] w fun e w' => e = .returned (.int .i64 n) ∧ w = w' := by
  go_enter Tryz.func126, Tryz.ntmps126
  go_wp2_with fail
  go_ret
  exact ⟨rfl, rfl⟩

set_option maxHeartbeats 2000000 in
theorem findOr_any (a : Option Addr) (cap : Nat) (l : List OdR) (id : ByteArray) (w : World) (h : OrsP w a cap l) : Calls Tryz.prog 155 #[.slice a l.length cap, .string id, .func (.func 156) #[] #[]] w fun e w' => e = .returned (.pointer (ptrG 10 (isO id) a l)) ∧ w = w' := by
  have H := Lib.hid h
  have p1 := h.sl.cap
  have hl := h.sl.len
  unfold maxLen at hl
  clear h
  go_enter Tryz.func155, Tryz.ntmps155
  go_wp2_with fail
  go_loopw [10] (fun i wr => ∃ (k : Nat), k ≤ l.length ∧ i = .int .i64 k ∧ Hid (∀ j (h : j < k) (h2 : j < l.length), isO id l[j] = false) ∧ wr = w) (fun i _ => l.length - (intOf i).toNat)
  case atStart => exact ⟨0, Nat.zero_le _, rfl, Lib.hid (fun j h => absurd h (Nat.not_lt_zero _)), rfl⟩
  case round =>
    obtain ⟨k, hk, rfl, HF, hw⟩ := hrel
    subst hw
    by_cases hlt : k < l.length
    · obtain ⟨b, o, rfl, hb, c0, ld, _⟩ := H.out.ld k hlt
      have HO := Lib.hid (orderId_any b (o + k * 10) l[k].o.id _ c0)
      have HP := Lib.hid (fun (hq : (l[k].o.id.toList == id.toList) = true) => show ptrG 10 (isO id) (some ⟨b, o, none⟩) l = some ⟨b, o + k * 10, none⟩ from ptrG_at hlt hq (fun j hj => HF.out j hj (by omega)))
      have HN := Lib.hid (fun (hq : (l[k].o.id.toList == id.toList) = false) => show ∀ j (h : j < k + 1) (h2 : j < l.length), isO id l[j] = false from fun j hj h2 => by
        by_cases hjk : j = k
        · subst hjk; exact hq
        · exact HF.out j (by omega) h2)
      clear ld c0
      generalize l[k] = x at *
      cases q : (x.o.id.toList == id.toList) with
      | true =>
        have HX := Lib.hid (HP.out q)
        clear HP HN
        go_wp2_with fail
        refine HO.out.mono ?_
        rintro e w' ⟨rfl, rfl⟩
        go_wp2_with fail
        go_ret
        exact ⟨by rw [HX.out]; try rfl, rfl⟩
      | false =>
        have HX := Lib.hid (HN.out q)
        clear HP HN
        go_wp2_with fail
        refine HO.out.mono ?_
        rintro e w' ⟨rfl, rfl⟩
        go_wp2_with fail
        go_roundw
        case rel => exact ⟨k + 1, by omega, by go_num, HX, by first | trivial | rfl⟩
        case measure => simp [intOf]; omega
    · have HX := Lib.hid (show ptrG 10 (isO id) a l = none from ptrG_none a (fun j hj => HF.out j (by omega) hj))
      go_wp2_with fail
      go_ret
      exact ⟨by rw [HX.out]; try rfl, rfl⟩

set_option maxHeartbeats 2000000 in
theorem findBa_any (a : Option Addr) (cap : Nat) (l : List BtR) (id : Int) (w : World) (h : BasP w a cap l) : Calls Tryz.prog 125 #[.slice a l.length cap, .int .i64 id, .func (.func 126) #[] #[]] w fun e w' => e = .returned (.pointer (ptrG 9 (isB id) a l)) ∧ w = w' := by
  have H := Lib.hid h
  have p1 := h.sl.cap
  have hl := h.sl.len
  unfold maxLen at hl
  clear h
  go_enter Tryz.func125, Tryz.ntmps125
  go_wp2_with fail
  go_loopw [10] (fun i wr => ∃ (k : Nat), k ≤ l.length ∧ i = .int .i64 k ∧ Hid (∀ j (h : j < k) (h2 : j < l.length), isB id l[j] = false) ∧ wr = w) (fun i _ => l.length - (intOf i).toNat)
  case atStart => exact ⟨0, Nat.zero_le _, rfl, Lib.hid (fun j h => absurd h (Nat.not_lt_zero _)), rfl⟩
  case round =>
    obtain ⟨k, hk, rfl, HF, hw⟩ := hrel
    subst hw
    by_cases hlt : k < l.length
    · obtain ⟨b, o, rfl, hb, c0, ld, _⟩ := H.out.ld k hlt
      have HO := Lib.hid (batchId_any b (o + k * 9) l[k].b.id _ c0)
      have HP := Lib.hid (fun (hq : (l[k].b.id == id) = true) => show ptrG 9 (isB id) (some ⟨b, o, none⟩) l = some ⟨b, o + k * 9, none⟩ from ptrG_at hlt hq (fun j hj => HF.out j hj (by omega)))
      have HN := Lib.hid (fun (hq : (l[k].b.id == id) = false) => show ∀ j (h : j < k + 1) (h2 : j < l.length), isB id l[j] = false from fun j hj h2 => by
        by_cases hjk : j = k
        · subst hjk; exact hq
        · exact HF.out j (by omega) h2)
      clear ld c0
      generalize l[k] = x at *
      cases q : (x.b.id == id) with
      | true =>
        have HX := Lib.hid (HP.out q)
        clear HP HN
        go_wp2_with fail
        refine HO.out.mono ?_
        rintro e w' ⟨rfl, rfl⟩
        go_wp2_with fail
        go_ret
        exact ⟨by rw [HX.out]; try rfl, rfl⟩
      | false =>
        have HX := Lib.hid (HN.out q)
        clear HP HN
        go_wp2_with fail
        refine HO.out.mono ?_
        rintro e w' ⟨rfl, rfl⟩
        go_wp2_with fail
        go_roundw
        case rel => exact ⟨k + 1, by omega, by go_num, HX, by first | trivial | rfl⟩
        case measure => simp [intOf]; omega
    · have HX := Lib.hid (show ptrG 9 (isB id) a l = none from ptrG_none a (fun j hj => HF.out j (by omega) hj))
      go_wp2_with fail
      go_ret
      exact ⟨by rw [HX.out]; try rfl, rfl⟩

/-- One of a list, found: its cells. -/
theorem OrsP.cells {W : World} {a : Option Addr} {cap : Nat} {l : List OdR} (h : OrsP W a cap l) (j : Nat) (hj : j < l.length) : ∃ b o, a = some ⟨b, o, none⟩ ∧ b < W.heap.size ∧ (∀ i u, (orL l[j])[i]? = some u → W.cell? ⟨b, o + j * 10 + i, none⟩ = some u) ∧ OdP W l[j].a l[j].c l[j].o := by
  obtain ⟨b, o, e, hb, hc, _⟩ := h.sl.at LO_ok j hj
  exact ⟨b, o, e, hb, hc, h.each _ (List.getElem_mem hj)⟩
theorem BasP.cells {W : World} {a : Option Addr} {cap : Nat} {l : List BtR} (h : BasP W a cap l) (j : Nat) (hj : j < l.length) : ∃ b o, a = some ⟨b, o, none⟩ ∧ b < W.heap.size ∧ (∀ i u, (baL l[j])[i]? = some u → W.cell? ⟨b, o + j * 9 + i, none⟩ = some u) ∧ BtP W l[j].a l[j].c l[j].b := by
  obtain ⟨b, o, e, hb, hc, _⟩ := h.sl.at LB_ok j hj
  exact ⟨b, o, e, hb, hc, h.each _ (List.getElem_mem hj)⟩

set_option maxHeartbeats 4000000 in
theorem weightS_any (r : StR) (a : Option Addr) (cap : Nat) (ids : List ByteArray) (w : World) (h : StP w r) (hs : StrsP w a cap ids) (hm : ids.length ≤ 1000000) : Calls Tryz.prog 157 #[stV r, .slice a ids.length cap] w (NumP (weighS (odsOf r.ords) ids) w) := by
  have CO := Lib.hid (fun id W hW => findOr_any r.oa r.oc r.ords id W hW)
  have CW := Lib.hid (fun a cap l W hW hm => weight_any a cap l W hW hm)
  have I := Lib.hid (OnI.begin w r h)
  have S := Lib.hid hs
  have p1 := hs.cap
  clear h hs
  go_enter Tryz.func157, Tryz.ntmps157
  go_wp2_with fail
  generalize w.alloc (.cells (stC r) 37) = W0 at *
  go_loopw [5, 11] (fun s i wr => ∃ (k : Nat), k ≤ ids.length ∧ i = .int .i64 k ∧ s = .int .i64 (weighS (odsOf r.ords) (ids.take k)) ∧ Hid (OnI w r wr)) (fun _ i _ => ids.length - (intOf i).toNat)
  case atStart => exact ⟨0, Nat.zero_le _, rfl, rfl, I⟩
  case round =>
    clear I
    obtain ⟨k, hk, rfl, rfl, HI⟩ := hrel
    by_cases hlt : k < ids.length
    · obtain ⟨b, o, e, hb, c0⟩ := (S.out.below HI.out.low).at k hlt
      rw [e]
      clear e
      have HT := Lib.hid (weighS_take (odsOf r.ords) ids k hlt)
      have hb1 := weighS_bound (odsOf r.ords) (ids.take k)
      have hb2 := weightV_bound (orderV (odsOf r.ords) ids[k]).ls
      have hlen : (ids.take k).length ≤ 1000000 := by rw [List.length_take]; omega
      have q1 : 0 ≤ weighS (odsOf r.ords) (ids.take k) := hb1.1
      have q2 : weighS (odsOf r.ords) (ids.take k) ≤ 800000000000000 := by omega
      have c9 := HI.out.one.st.2.2.2.2.1
      have CO1 := Lib.hid (CO.out ids[k] wr HI.out.st.ords)
      have HQ := Lib.hid (first_or (isO ids[k]) r.ords)
      clear hb1 hlen
      generalize ids[k] = id at *
      generalize weighS (odsOf r.ords) (ids.take k) = s at *
      rcases HQ.out with hn | ⟨j, hj, hjp, hjb⟩
      · rw [ptrG_none r.oa hn] at CO1
        have HV := Lib.hid (show weightV (orderV (odsOf r.ords) id).ls = 0 by unfold orderV; rw [findO_none hn]; rfl)
        clear hn HQ hb2
        go_wp2_with fail
        refine CO1.out.mono ?_
        rintro e w1 ⟨rfl, rfl⟩
        go_wp2_with fail
        go_roundw
        case rel => exact ⟨k + 1, by omega, by go_num, by rw [HT.out, HV.out, Int.add_zero], HI⟩
        case measure => simp [intOf]; omega
      · obtain ⟨b2, o2, e2, hb3, hc, hP⟩ := HI.out.st.ords.cells j hj
        have HV : orderV (odsOf r.ords) id = r.ords[j].o := by unfold orderV; rw [findO_at hj hjp hjb]; rfl
        rw [HV] at HT hb2
        rw [e2, ptrG_at hj hjp hjb, ← e2] at CO1
        have d1 : wr.cell? ⟨b2, o2 + j * 10 + 1, none⟩ = some (.slice r.ords[j].a r.ords[j].o.ls.length r.ords[j].c) := hc 1 _ rfl
        have CW1 := Lib.hid (CW.out r.ords[j].a r.ords[j].c r.ords[j].o.ls wr hP.lns hP.len)
        clear hc hP HV HQ hjp hjb e2
        generalize r.ords[j] = x at *
        generalize weightV x.o.ls = v at *
        go_wp2_with fail
        refine CO1.out.mono ?_
        rintro e w1 ⟨rfl, rfl⟩
        go_wp2_with fail
        refine CW1.out.mono ?_
        rintro e w2 ⟨rfl, b2⟩
        have J := Lib.hid (HI.out.below b2)
        clear b2 CW1 d1 CO1 HI
        go_wp2_with fail
        go_roundw
        case rel => exact ⟨k + 1, by omega, by go_num, by rw [HT.out], J⟩
        case measure => simp [intOf]; omega
    · have HT := Lib.hid (show weighS (odsOf r.ords) (ids.take k) = weighS (odsOf r.ords) ids by rw [List.take_of_length_le (by omega)])
      go_wp2_with fail
      go_ret
      exact ⟨by rw [← HT.out]; rfl, HI.out.low⟩
end

/- StPr2: What package state's functions on orders, batches and members answer. -/
section
set_option maxRecDepth 100000
open Go.RowKit Go.ChangeShapes Go.WideShapes Go.ChangeAt
attribute [local go_sem ↓] ldOr stOr alOr bxOr bdOr ldBa stBa alBa bxBa bdBa ldSt stSt alSt bxSt bdSt ldEf stEf alEf bxEf eqEf bdEf bsEf ldGr bxGr eqGr ldCa bxCa eqCa
attribute [local go_sem] al_or bx_or st_ornew bd_or al_ba bx_ba st_banew bd_ba al_sta bx_sta st_stnew bd_sta al_ef bx_ef st_new bd_ef bs_ef bs_ef0 bx_gr ne_gr bx_ca ne_ca eq_caX eq_grX

/-- A batch that a desk can have. -/
def isBt (b : Bt) : Bool := rightBt b && (((b.phase == 1) || (b.phase == 2)) && decide (0 < b.mem.length))
/-- The phase within a batch, as the program tells it. -/
def phaseN (b : Bt) : Int := if b.kind == 2 then (if b.phase == 1 then 5 else 6) else (if b.phase == 1 then 3 else 4)
theorem phaseN_inside {b : Bt} (hk : b.kind = 1 ∨ b.kind = 2) : phaseN b = insideN b.kind b.phase := by
  unfold phaseN insideN
  rcases hk with h | h <;> simp [h]
theorem batchOk_split (os : List Od) (nb : Int) (b : Bt) : batchOk os nb b = (isBt b && (decide (b.id < nb) && (b.mem.all (memOk os b) && (b.wt == weighS os b.mem)))) := by
  unfold batchOk isBt
  cases hr : rightBt b with
  | false => rfl
  | true =>
    obtain ⟨_, hp, _⟩ := rightBt_kind hr
    have e1 : (b.phase != 3) = ((b.phase == 1) || (b.phase == 2)) := by
      rcases (show b.phase = 1 ∨ b.phase = 2 ∨ b.phase = 3 by omega) with h | h | h <;> rw [h] <;> decide
    have e2 : decide (b.mem.length ≠ 0) = decide (0 < b.mem.length) := by
      rw [Bool.eq_iff_iff]
      simp only [decide_eq_true_eq]
      omega
    have e3 : (weighS os b.mem == b.wt) = (b.wt == weighS os b.mem) := Bool.beq_comm
    rw [e1, e2, e3]
    cases ((b.phase == 1) || (b.phase == 2)) <;> cases decide (0 < b.mem.length) <;> cases decide (b.id < nb) <;> cases (b.wt == weighS os b.mem) <;> simp

set_option maxHeartbeats 2000000 in
theorem isBatch_any (x : BtR) (w : World) (h : BtP w x.a x.c x.b) : Calls Tryz.prog 123 #[baV x] w (Tell (isBt x.b) w) := by
  have B := Lib.hid ((Below.refl w.heap.size w).alloc (Nat.le_refl _) (.cells (baC x) 98))
  have R := Lib.hid (Row.new w (baC x) 98)
  have C := Lib.hid (btRight_any x.a x.c x.b _ (h.below B.out))
  have ld := ld_ba R.out
  have HE := Lib.hid (show isBt x.b = (rightBt x.b && (((x.b.phase == 1) || (x.b.phase == 2)) && decide (0 < x.b.mem.length))) from rfl)
  clear h
  go_enter Tryz.func123, Tryz.ntmps123
  go_wp2_with fail
  generalize w.alloc (.cells (baC x) 98) = W0 at *
  refine C.out.mono ?_
  rintro e W ⟨rfl, b1⟩
  have R1 := Lib.hid (R.out.below b1)
  have B1 := Lib.hid (B.out.trans (b1.mono B.out.size))
  clear ld C b1 R B
  obtain ⟨⟨_, _, _, _, c4⟩, _, _, _, c8⟩ := R1.out.b
  cases k1 : rightBt x.b with
  | false =>
    rw [k1] at HE
    go_wp2_with fail
    go_ret
    exact ⟨by rw [HE.out]; rfl, B1.out⟩
  | true =>
    rw [k1] at HE
    cases k2 : (x.b.phase == 1) with
    | true =>
      rw [k2] at HE
      go_wp2_with fail
      go_ret
      exact ⟨by rw [HE.out]; simp, B1.out⟩
    | false =>
      rw [k2] at HE
      cases k3 : (x.b.phase == 2) with
      | true =>
        rw [k3] at HE
        go_wp2_with fail
        go_ret
        exact ⟨by rw [HE.out]; simp, B1.out⟩
      | false =>
        rw [k3] at HE
        go_wp2_with fail
        go_ret
        exact ⟨by rw [HE.out]; simp, B1.out⟩
set_option maxHeartbeats 2000000 in
theorem phaseWithin_any (x : BtR) (w : World) : Calls Tryz.prog 154 #[baV x] w (NumP (phaseN x.b) w) := by
  have B := Lib.hid ((Below.refl w.heap.size w).alloc (Nat.le_refl _) (.cells (baC x) 98))
  obtain ⟨⟨_, _, _, c3, c4⟩, _⟩ := (Row.new w (baC x) 98).b
  have HE := Lib.hid (show phaseN x.b = (if x.b.kind == 2 then (if x.b.phase == 1 then 5 else 6) else (if x.b.phase == 1 then 3 else 4)) from rfl)
  generalize phaseN x.b = res at *
  cases k1 : (x.b.kind == 2) <;> cases k2 : (x.b.phase == 1)
  all_goals
    rw [k1, k2] at HE
    go_enter Tryz.func154, Tryz.ntmps154
    go_wp2_with fail
    go_ret
    exact ⟨by rw [HE.out]; rfl, B.out⟩

set_option maxHeartbeats 8000000 in
theorem areOrders_any (a : Option Addr) (cap : Nat) (l : List OdR) (w : World) (h : OrsP w a cap l) : Calls Tryz.prog 83 #[.slice a l.length cap] w (Tell (decide (l.length ≤ 400) && goodO none (odsOf l)) w) := by
  have H := Lib.hid h
  have p1 := h.sl.cap
  have hl := h.sl.len
  unfold maxLen at hl
  clear h
  cases k0 : decide (l.length ≤ 400) with
  | false =>
    have k0d : (400 : Int) < (l.length : Int) := by simp at k0; omega
    go_enter Tryz.func83, Tryz.ntmps83
    go_wp2_with fail
    go_ret
    exact ⟨rfl, Below.refl _ _⟩
  | true =>
    have k0d : ¬ (400 : Int) < (l.length : Int) := by simp at k0; omega
    have HE := Lib.hid (show (true && goodO none (odsOf l)) = goodO (prevO (odsOf l) 0) ((odsOf l).drop 0) from rfl)
    generalize (true && goodO none (odsOf l)) = res at *
    clear k0
    go_enter Tryz.func83, Tryz.ntmps83
    go_wp2_with fail
    go_loopw [10] (fun i wr => ∃ (k : Nat), k ≤ l.length ∧ i = .int .i64 k ∧ Hid (res = goodO (prevO (odsOf l) k) ((odsOf l).drop k)) ∧ Hid (Below w.heap.size w wr)) (fun i _ => l.length - (intOf i).toNat)
    case atStart => exact ⟨0, Nat.zero_le _, rfl, HE, Lib.hid (Below.refl _ _)⟩
    case round =>
      clear HE
      obtain ⟨k, hk, rfl, HF, HB⟩ := hrel
      by_cases hlt : k < l.length
      · obtain ⟨b, o, rfl, hb, _, ld, _⟩ := (H.out.below HB.out).ld k hlt
        have HD := Lib.hid (goodO_raw l k hlt)
        have HS := Lib.hid ((H.out.below HB.out).each _ (List.getElem_mem hlt))
        have HPV : ∀ j, k = j + 1 → ∃ y : OdR, prevO (odsOf l) k = some y.o.id ∧ wr.cell? ⟨b, o + j * 10, none⟩ = some (.string y.o.id) := by
          intro j hj
          subst hj
          obtain ⟨b2, o2, e2, _, hc, _, _⟩ := (H.out.below HB.out).ld j (by omega)
          injection e2 with e2
          injection e2 with e3 e4
          subst e3 e4
          exact ⟨l[j]'(by omega), by rw [prevO_succ (by simpa [odsOf] using (by omega : j < l.length))]; simp [odsOf], hc⟩
        have HPV := Lib.hid HPV
        generalize l[k] = x at *
        have R := Lib.hid (Row.new wr (orC x) 93)
        have BW := Lib.hid ((Below.refl wr.heap.size wr).alloc (Nat.le_refl _) (.cells (orC x) 93))
        have J := Lib.hid (HB.out.trans (BW.out.mono HB.out.size))
        have CR := Lib.hid (fun W (hW : Below (wr.alloc (.cells (orC x) 93)).heap.size (wr.alloc (.cells (orC x) 93)) W) => oRight_any x.a x.c x.o W ((HS.out.below BW.out).below hW))
        cases k1 : rightO x.o with
        | false =>
          rw [k1] at CR
          have HX := Lib.hid (show res = false by rw [HF.out, HD.out, k1]; rfl)
          go_wp2_with fail
          generalize wr.alloc (.cells (orC x) 93) = W1 at *
          have f1 : ∀ p : Far W1, LdX 93 (.pointer (some ⟨wr.heap.size, 0, none⟩)) (farOf W1 p) = .ok (.value (orV x)) (farOf W1 p) := fun p => ld_or (R.out.below (far_below W1 p))
          have g0 := fun p : Far W1 => (R.out.below (far_below W1 p)).o.1.1
          have C1 := Lib.hid (fun p : Far W1 => CR.out _ (far_below W1 p))
          clear ld CR
          refine wp_region_far (by kernel_rfl) (by kernel_rfl) ?_
          repeat (first | go_big_quiet_step ((go_at_call 122; exact calls_far (C1.out _))) | quiet_step ((go_at_call 122; exact calls_far (C1.out _))))
          refine wpQuiet_nil ?_
          intro _ hw'
          obtain ⟨q, hw''⟩ := hw'
          subst hw''
          have B5 := Lib.hid (J.out.trans ((far_below W1 q).mono J.out.size))
          clear f1 g0 C1
          go_wp2_with fail
          go_ret
          exact ⟨by rw [HX.out]; try rfl, B5.out⟩
        | true =>
          rw [k1] at CR
          by_cases hk0 : 0 < k
          · obtain ⟨j, rfl⟩ : ∃ j, k = j + 1 := ⟨k - 1, by omega⟩
            obtain ⟨y, hpv, hpc⟩ := HPV.out j rfl
            go_wp2_with fail
            generalize wr.alloc (.cells (orC x) 93) = W1 at *
            have f1 : ∀ p : Far W1, LdX 93 (.pointer (some ⟨wr.heap.size, 0, none⟩)) (farOf W1 p) = .ok (.value (orV x)) (farOf W1 p) := fun p => ld_or (R.out.below (far_below W1 p))
            have g0 := fun p : Far W1 => (R.out.below (far_below W1 p)).o.1.1
            have C1 := Lib.hid (fun p : Far W1 => CR.out _ (far_below W1 p))
            have hpc1 := (BW.out.cell (p := ⟨b, o + j * 10, none⟩) hb).trans hpc
            have hb1 : b < W1.heap.size := Nat.lt_of_lt_of_le hb BW.out.size
            have gp := far_cell hb1 hpc1
            have C2 := Lib.hid (fun p : Far W1 => cmp_any y.o.id x.o.id (farOf W1 p))
            clear ld CR
            cases k2 : decide (kcmp y.o.id x.o.id < 0) with
            | false =>
              have hq3 : (0 : Int) ≤ kcmp y.o.id x.o.id := by simp at k2; omega
              have HX := Lib.hid (show res = false by rw [HF.out, HD.out, k1, hpv, aheadO]; simp only [k2, Bool.false_and, Bool.true_and])
              clear k2 hpv hpc hpc1
              generalize kcmp y.o.id x.o.id = c at *
              refine wp_region_far (by kernel_rfl) (by kernel_rfl) ?_
              repeat (first | go_big_quiet_step (first | (go_at_call 122; exact calls_far (C1.out _)) | (go_at_call 106; exact calls_far_same (C2.out _))) | quiet_step (first | (go_at_call 122; exact calls_far (C1.out _)) | (go_at_call 106; exact calls_far_same (C2.out _))))
              refine wpQuiet_nil ?_
              intro _ hw'
              obtain ⟨q, hw''⟩ := hw'
              subst hw''
              have B5 := Lib.hid (J.out.trans ((far_below W1 q).mono J.out.size))
              clear f1 g0 gp C1 C2
              go_wp2_with fail
              go_ret
              exact ⟨by rw [HX.out]; try rfl, B5.out⟩
            | true =>
              have hq3 : ¬ (0 : Int) ≤ kcmp y.o.id x.o.id := by simp at k2; omega
              have HX := Lib.hid (show res = goodO (prevO (odsOf l) (j + 1 + 1)) ((odsOf l).drop (j + 1 + 1)) by rw [HF.out, HD.out, k1, hpv, aheadO]; simp only [k2, Bool.true_and])
              clear k2 hpv hpc hpc1
              generalize kcmp y.o.id x.o.id = c at *
              refine wp_region_far (by kernel_rfl) (by kernel_rfl) ?_
              repeat (first | go_big_quiet_step (first | (go_at_call 122; exact calls_far (C1.out _)) | (go_at_call 106; exact calls_far_same (C2.out _))) | quiet_step (first | (go_at_call 122; exact calls_far (C1.out _)) | (go_at_call 106; exact calls_far_same (C2.out _))))
              refine wpQuiet_nil ?_
              intro _ hw'
              obtain ⟨q, hw''⟩ := hw'
              subst hw''
              have B5 := Lib.hid (J.out.trans ((far_below W1 q).mono J.out.size))
              clear f1 g0 gp C1 C2
              go_wp2_with fail
              go_roundw
              case rel => exact ⟨j + 1 + 1, by omega, by go_num, HX, B5⟩
              case measure => simp [intOf]; omega
          · have HX := Lib.hid (show res = goodO (prevO (odsOf l) (k + 1)) ((odsOf l).drop (k + 1)) by rw [HF.out, HD.out, k1, show prevO (odsOf l) k = none from if_pos (by omega)]; rfl)
            go_wp2_with fail
            generalize wr.alloc (.cells (orC x) 93) = W1 at *
            have f1 : ∀ p : Far W1, LdX 93 (.pointer (some ⟨wr.heap.size, 0, none⟩)) (farOf W1 p) = .ok (.value (orV x)) (farOf W1 p) := fun p => ld_or (R.out.below (far_below W1 p))
            have g0 := fun p : Far W1 => (R.out.below (far_below W1 p)).o.1.1
            have C1 := Lib.hid (fun p : Far W1 => CR.out _ (far_below W1 p))
            clear ld CR
            refine wp_region_far (by kernel_rfl) (by kernel_rfl) ?_
            repeat (first | go_big_quiet_step ((go_at_call 122; exact calls_far (C1.out _))) | quiet_step ((go_at_call 122; exact calls_far (C1.out _))))
            refine wpQuiet_nil ?_
            intro _ hw'
            obtain ⟨q, hw''⟩ := hw'
            subst hw''
            have B5 := Lib.hid (J.out.trans ((far_below W1 q).mono J.out.size))
            clear f1 g0 C1
            go_wp2_with fail
            go_roundw
            case rel => exact ⟨k + 1, by omega, by go_num, HX, B5⟩
            case measure => simp [intOf]; omega
      · have HX := Lib.hid (show res = true by rw [HF.out, List.drop_eq_nil_of_le (by simpa [odsOf] using (by omega : l.length ≤ k))]; rfl)
        go_wp2_with fail
        go_ret
        exact ⟨by rw [HX.out]; try rfl, HB.out⟩
end

/- StPr3: What package state's functions on members, batches and effects answer. -/
section
set_option maxRecDepth 100000
open Go.RowKit Go.ChangeShapes Go.WideShapes Go.ChangeAt
attribute [local go_sem ↓] ldOr stOr alOr bxOr bdOr ldBa stBa alBa bxBa bdBa ldSt stSt alSt bxSt bdSt ldEf stEf alEf bxEf eqEf bdEf bsEf ldGr bxGr eqGr ldCa bxCa eqCa
attribute [local go_sem] al_or bx_or st_ornew bd_or al_ba bx_ba st_banew bd_ba al_sta bx_sta st_stnew bd_sta al_ef bx_ef st_new bd_ef bs_ef bs_ef0 bx_gr ne_gr bx_ca ne_ca eq_caX eq_grX

theorem memOk_some {os : List Od} {b : Bt} {id : ByteArray} {y : Od} (h : findO os id = some y) : memOk os b id = ((y.batch == b.id) && (sameG y.car y.zone y.serv b.car b.zone b.serv && (y.phase == insideN b.kind b.phase))) := by
  unfold memOk orderV
  rw [h]
  rfl
theorem memOk_none {os : List Od} {b : Bt} {id : ByteArray} (h : findO os id = none) : memOk os b id = false := by
  unfold memOk
  rw [h]
  rfl
set_option maxHeartbeats 8000000 in
theorem areItsMembers_any (r : StR) (x : BtR) (w : World) (h : StP w r) (hx : BtP w x.a x.c x.b) (hk : x.b.kind = 1 ∨ x.b.kind = 2) (hm : x.b.mem.length ≤ 1000000) : Calls Tryz.prog 124 #[stV r, baV x] w (Tell (x.b.mem.all (memOk (odsOf r.ords) x.b) && (x.b.wt == weighS (odsOf r.ords) x.b.mem)) w) := by
  have I := Lib.hid (BkI.begin w r x h hx)
  have CO := Lib.hid (fun id W hW => findOr_any r.oa r.oc r.ords id W hW)
  have CP := Lib.hid (fun W => phaseWithin_any x W)
  have CW := Lib.hid (fun W hW hs => weightS_any r x.a x.c x.b.mem W hW hs hm)
  have p1 := hx.mem.cap
  have hl := hm
  have HE := Lib.hid (show (x.b.mem.all (memOk (odsOf r.ords) x.b) && (x.b.wt == weighS (odsOf r.ords) x.b.mem)) = ((x.b.mem.drop 0).all (memOk (odsOf r.ords) x.b) && (x.b.wt == weighS (odsOf r.ords) x.b.mem)) from rfl)
  have HPh := Lib.hid (phaseN_inside hk)
  generalize (x.b.mem.all (memOk (odsOf r.ords) x.b) && (x.b.wt == weighS (odsOf r.ords) x.b.mem)) = res at *
  clear h hx hm hk
  have ld := ld_ba I.out.two
  generalize phaseN x.b = ph at *
  go_enter Tryz.func124, Tryz.ntmps124
  go_wp2_with fail
  generalize (w.alloc (.cells (stC r) 37)).alloc (.cells (baC x) 98) = W0 at *
  refine (CP.out _).mono ?_
  rintro e W1 ⟨rfl, b1⟩
  replace I := Lib.hid (I.out.below b1)
  have c8 := I.out.two.b.2.2.2.2
  clear ld b1 CP
  go_wp2_with fail
  go_loopw [14] (fun i wr => ∃ (k : Nat), k ≤ x.b.mem.length ∧ i = .int .i64 k ∧ Hid (res = ((x.b.mem.drop k).all (memOk (odsOf r.ords) x.b) && (x.b.wt == weighS (odsOf r.ords) x.b.mem))) ∧ Hid (BkI w r x wr)) (fun i _ => x.b.mem.length - (intOf i).toNat)
  case atStart => exact ⟨0, Nat.zero_le _, rfl, HE, I⟩
  case round =>
    clear I HE c8
    obtain ⟨k, hk, rfl, HF, HI⟩ := hrel
    by_cases hlt : k < x.b.mem.length
    · obtain ⟨b, o, e, hb, c0⟩ := HI.out.bt.mem.at k hlt
      rw [e]
      clear e
      have HD := Lib.hid (all_drop (memOk (odsOf r.ords) x.b) x.b.mem k hlt)
      have c9 := HI.out.one.st.2.2.2.2.1
      have CO1 := Lib.hid (CO.out x.b.mem[k] wr HI.out.st.ords)
      have HQ := Lib.hid (first_or (isO x.b.mem[k]) r.ords)
      generalize x.b.mem[k] = id at *
      rcases HQ.out with hn | ⟨j, hj, hjp, hjb⟩
      · rw [ptrG_none r.oa hn] at CO1
        have HX := Lib.hid (show res = false by rw [HF.out, HD.out, memOk_none (findO_none hn)]; rfl)
        clear hn HQ
        go_wp2_with fail
        refine CO1.out.mono ?_
        rintro e w1 ⟨rfl, rfl⟩
        have g1 : ∀ p : Far wr, (farOf wr p).cell? ⟨w.heap.size + 1, 0, none⟩ = some (.int .i64 x.b.id) := fun p => (HI.out.below (far_below wr p)).two.b.1.1
        clear c0 c9
        go_wp2_with fail
        refine wp_region_far (by kernel_rfl) (by kernel_rfl) ?_
        repeat (first | go_big_quiet_step (fail) | quiet_step (fail))
        refine wpQuiet_nil ?_
        intro _ hw'
        obtain ⟨q, hw''⟩ := hw'
        subst hw''
        have B5 := Lib.hid (HI.out.below (far_below wr q)).low
        clear g1
        go_wp2_with fail
        go_ret
        exact ⟨by rw [HX.out]; try rfl, B5.out⟩
      · obtain ⟨b2, o2, e2, hb3, hc, hP⟩ := HI.out.st.ords.cells j hj
        have HM := Lib.hid (memOk_some (b := x.b) (findO_at hj hjp hjb))
        rw [e2, ptrG_at hj hjp hjb, ← e2] at CO1
        have d2 : wr.cell? ⟨b2, o2 + j * 10 + 2, none⟩ = some (.string r.ords[j].o.car) := hc 2 _ rfl
        have d3 : wr.cell? ⟨b2, o2 + j * 10 + 2 + 1, none⟩ = some (.string r.ords[j].o.zone) := hc 3 _ rfl
        have d4 : wr.cell? ⟨b2, o2 + j * 10 + 2 + 2, none⟩ = some (.string r.ords[j].o.serv) := hc 4 _ rfl
        have d6 : wr.cell? ⟨b2, o2 + j * 10 + 6, none⟩ = some (.int .i64 r.ords[j].o.phase) := hc 6 _ rfl
        have d9 : wr.cell? ⟨b2, o2 + j * 10 + 9, none⟩ = some (.int .i64 r.ords[j].o.batch) := hc 9 _ rfl
        clear hc hP HQ hjp hjb e2
        generalize r.ords[j] = y at *
        go_wp2_with fail
        refine CO1.out.mono ?_
        rintro e w1 ⟨rfl, rfl⟩
        have f1 : ∀ p : Far wr, LdX 24 (.pointer (some ⟨b2, o2 + j * 10 + 2, none⟩)) (farOf wr p) = .ok (.value (grV y.o.car y.o.zone y.o.serv)) (farOf wr p) := fun p => ld_grAt (far_cell hb3 d2 p) (far_cell hb3 d3 p) (far_cell hb3 d4 p)
        have f2 : ∀ p : Far wr, LdX 24 (.pointer (some ⟨w.heap.size + 1, 5, none⟩)) (farOf wr p) = .ok (.value (grV x.b.car x.b.zone x.b.serv)) (farOf wr p) := fun p => by
          have c := (HI.out.below (far_below wr p)).two.b
          exact ld_grAt c.2.1 c.2.2.1 c.2.2.2.1
        have g0 : ∀ p : Far wr, (farOf wr p).cell? ⟨w.heap.size + 1, 0, none⟩ = some (.int .i64 x.b.id) := fun p => (HI.out.below (far_below wr p)).two.b.1.1
        have g6 := far_cell hb3 d6
        have g9 := far_cell hb3 d9
        rw [← HPh.out] at HM
        clear c0 c9 d2 d3 d4 d6 d9 CO1
        go_wp2_with fail
        cases k1 : sameG y.o.car y.o.zone y.o.serv x.b.car x.b.zone x.b.serv with
        | false =>
          have HX := Lib.hid (show res = false by rw [HF.out, HD.out, HM.out, k1, Bool.false_and, Bool.and_false]; rfl)
          refine wp_region_far (by kernel_rfl) (by kernel_rfl) ?_
          repeat (first | go_big_quiet_step (fail) | quiet_step (fail))
          refine wpQuiet_nil ?_
          intro _ hw'
          obtain ⟨q, hw''⟩ := hw'
          subst hw''
          have B5 := Lib.hid (HI.out.below (far_below wr q)).low
          clear f1 f2 g0 g6 g9
          go_wp2_with fail
          go_ret
          exact ⟨by rw [HX.out]; try rfl, B5.out⟩
        | true =>
          cases k2 : (y.o.batch == x.b.id) with
          | false =>
            have k2d : (y.o.batch != x.b.id) = true := by simp only [bne, k2]; rfl
            have HX := Lib.hid (show res = false by rw [HF.out, HD.out, HM.out, k2, Bool.false_and]; rfl)
            refine wp_region_far (by kernel_rfl) (by kernel_rfl) ?_
            repeat (first | go_big_quiet_step (fail) | quiet_step (fail))
            refine wpQuiet_nil ?_
            intro _ hw'
            obtain ⟨q, hw''⟩ := hw'
            subst hw''
            have B5 := Lib.hid (HI.out.below (far_below wr q)).low
            clear f1 f2 g0 g6 g9
            go_wp2_with fail
            go_ret
            exact ⟨by rw [HX.out]; try rfl, B5.out⟩
          | true =>
            have k2d : (y.o.batch != x.b.id) = false := by simp only [bne, k2]; rfl
            cases k3 : (y.o.phase == ph) with
            | false =>
              have k3d : (y.o.phase != ph) = true := by simp only [bne, k3]; rfl
              have HX := Lib.hid (show res = false by rw [HF.out, HD.out, HM.out, k1, k2, k3]; rfl)
              refine wp_region_far (by kernel_rfl) (by kernel_rfl) ?_
              repeat (first | go_big_quiet_step (fail) | quiet_step (fail))
              refine wpQuiet_nil ?_
              intro _ hw'
              obtain ⟨q, hw''⟩ := hw'
              subst hw''
              have B5 := Lib.hid (HI.out.below (far_below wr q)).low
              clear f1 f2 g0 g6 g9
              go_wp2_with fail
              go_ret
              exact ⟨by rw [HX.out]; try rfl, B5.out⟩
            | true =>
              have k3d : (y.o.phase != ph) = false := by simp only [bne, k3]; rfl
              have HX := Lib.hid (show res = ((x.b.mem.drop (k + 1)).all (memOk (odsOf r.ords) x.b) && (x.b.wt == weighS (odsOf r.ords) x.b.mem)) by rw [HF.out, HD.out, HM.out, k1, k2, k3]; rfl)
              refine wp_region_far (by kernel_rfl) (by kernel_rfl) ?_
              repeat (first | go_big_quiet_step (fail) | quiet_step (fail))
              refine wpQuiet_nil ?_
              intro _ hw'
              obtain ⟨q, hw''⟩ := hw'
              subst hw''
              have J5 := Lib.hid (HI.out.below (far_below wr q))
              clear f1 f2 g0 g6 g9
              go_wp2_with fail
              go_roundw
              case rel => exact ⟨k + 1, by omega, by go_num, HX, J5⟩
              case measure => simp [intOf]; omega
    · have HX := Lib.hid (show res = (x.b.wt == weighS (odsOf r.ords) x.b.mem) by rw [HF.out, List.drop_eq_nil_of_le (by omega)]; rfl)
      have f1 : ∀ p : Far wr, LdX 37 (.pointer (some ⟨w.heap.size, 0, none⟩)) (farOf wr p) = .ok (.value (stV r)) (farOf wr p) := fun p => ld_sta (HI.out.below (far_below wr p)).one
      have g1 := fun p : Far wr => (HI.out.below (far_below wr p)).two.b.1.2.1
      have g8 := fun p : Far wr => (HI.out.below (far_below wr p)).two.b.2.2.2.2
      have C1 := Lib.hid (fun p : Far wr => CW.out _ (HI.out.below (far_below wr p)).st (HI.out.below (far_below wr p)).bt.mem)
      generalize weighS (odsOf r.ords) x.b.mem = v at *
      go_wp2_with fail
      refine wp_region_far (by kernel_rfl) (by kernel_rfl) ?_
      repeat (first | go_big_quiet_step ((go_at_call 157; exact calls_far (C1.out _))) | quiet_step ((go_at_call 157; exact calls_far (C1.out _))))
      refine wpQuiet_nil ?_
      intro _ hw'
      obtain ⟨q, hw''⟩ := hw'
      subst hw''
      have B5 := Lib.hid (HI.out.below (far_below wr q)).low
      clear f1 g1 g8 C1
      go_wp2_with fail
      go_ret
      exact ⟨by rw [HX.out]; try rfl, B5.out⟩
end

/- StPr4: What package state's areEffects answers. -/
section
set_option maxRecDepth 100000
open Go.RowKit Go.ChangeShapes Go.WideShapes Go.ChangeAt
attribute [local go_sem ↓] ldOr stOr alOr bxOr bdOr ldBa stBa alBa bxBa bdBa ldSt stSt alSt bxSt bdSt ldEf stEf alEf bxEf eqEf bdEf bsEf ldGr bxGr eqGr ldCa bxCa eqCa
attribute [local go_sem] al_or bx_or st_ornew bd_or al_ba bx_ba st_banew bd_ba al_sta bx_sta st_stnew bd_sta al_ef bx_ef st_new bd_ef bs_ef bs_ef0 bx_gr ne_gr bx_ca ne_ca eq_caX eq_grX


set_option maxHeartbeats 8000000 in
theorem areEffects_any (r : StR) (w : World) (h : StP w r) (hf : r.effs.length ≤ 1000000) : Calls Tryz.prog 86 #[stV r] w (Tell (rightE r.effs && decide (∀ hne : r.effs ≠ [], (r.effs.getLast hne).key < r.nk)) w) := by
  have I := Lib.hid (OnI.begin w r h)
  have HC := Lib.hid (fun W (hW : EfsP W r.ea r.ec r.effs) => obRight_any r.ea r.ec r.effs W hW.sl hW.each)
  have p1 := h.effs.sl.cap
  clear h
  have c11 := I.out.one.st.2.2.2.2.2.2
  cases k1 : rightE r.effs with
  | false =>
    rw [k1] at HC
    go_enter Tryz.func86, Tryz.ntmps86
    go_wp2_with fail
    refine (HC.out _ I.out.st.effs).mono ?_
    rintro e W1 ⟨rfl, b1⟩
    have B5 := Lib.hid (I.out.below b1).low
    clear c11 b1
    go_wp2_with fail
    go_ret
    exact ⟨rfl, B5.out⟩
  | true =>
    rw [k1] at HC
    clear k1
    have HX := Lib.hid (show (true && decide (∀ hne : r.effs ≠ [], (r.effs.getLast hne).key < r.nk)) = decide (∀ hne : r.effs ≠ [], (r.effs.getLast hne).key < r.nk) from rfl)
    generalize (true && decide (∀ hne : r.effs ≠ [], (r.effs.getLast hne).key < r.nk)) = res at *
    go_enter Tryz.func86, Tryz.ntmps86
    go_wp2_with fail
    generalize w.alloc (.cells (stC r) 37) = W0 at *
    refine (HC.out _ I.out.st.effs).mono ?_
    rintro e W1 ⟨rfl, b1⟩
    have J := Lib.hid (I.out.below b1)
    clear c11 b1 I HC
    by_cases hne : r.effs = []
    · have HY := Lib.hid (show res = true by rw [HX.out, decide_eq_true_eq]; exact fun h => absurd hne h)
      have c11 : W1.cell? ⟨w.heap.size, 11, none⟩ = some (.slice r.ea 0 r.ec) := by
        have := J.out.one.st.2.2.2.2.2.2
        rw [show r.effs.length = 0 by rw [hne]; rfl] at this
        exact this
      clear hne HX hf p1
      go_wp2_with fail
      have g8 : ∀ p : Far W1, (farOf W1 p).cell? ⟨w.heap.size, 8, none⟩ = some (.int .i64 r.nk) := fun p => (J.out.below (far_below W1 p)).one.st.2.2.2.1
      refine wp_region_far (by kernel_rfl) (by kernel_rfl) ?_
      repeat (first | go_big_quiet_step (fail) | quiet_step (fail))
      refine wpQuiet_nil ?_
      intro _ hw'
      obtain ⟨q, hw''⟩ := hw'
      subst hw''
      have B5 := Lib.hid (J.out.below (far_below W1 q)).low
      clear g8 c11
      go_wp2_with fail
      go_ret
      exact ⟨by rw [HY.out]; try rfl, B5.out⟩
    · have hpos : 0 < r.effs.length := List.length_pos_iff.2 hne
      obtain ⟨m, hm⟩ : ∃ m, r.effs.length = m + 1 := ⟨r.effs.length - 1, by omega⟩
      have hm2 : m < r.effs.length := by omega
      have HY := Lib.hid (show res = decide (r.effs[m].key < r.nk) by
        rw [HX.out, Bool.eq_iff_iff]
        simp only [decide_eq_true_eq]
        have hg : r.effs.getLast hne = r.effs[m] := by
          rw [List.getLast_eq_getElem hne]
          simp only [hm, Nat.add_sub_cancel]
        rw [← hg]
        exact ⟨fun h => h hne, fun h _ => h⟩)
      obtain ⟨b, o, e, hb, hc, _⟩ := J.out.st.effs.sl.at LE_ok m hm2
      have d0 : W1.cell? ⟨b, o + m * 6, none⟩ = some (.int .i64 r.effs[m].key) := hc 0 _ rfl
      have c11 : W1.cell? ⟨w.heap.size, 11, none⟩ = some (.slice (some ⟨b, o, none⟩) r.effs.length r.ec) := by
        have := J.out.one.st.2.2.2.2.2.2
        rw [e] at this
        exact this
      have hsub : (r.effs.length : Int) - 1 = (m : Int) := by omega
      have hm0 : ¬ (m : Int) < 0 := by omega
      generalize r.effs[m] = y at *
      clear hc e hm hpos hne HX
      have HYY := HY
      clear HY
      generalize r.effs.length = n at *
      go_wp2_with fail
      have hb0 : w.heap.size < W1.heap.size := J.out.one.lt
      have g0 := far_cell hb d0
      have g8 : ∀ p : Far W1, (farOf W1 p).cell? ⟨w.heap.size, 8, none⟩ = some (.int .i64 r.nk) := fun p => (J.out.below (far_below W1 p)).one.st.2.2.2.1
      have g11 := far_cell (a := ⟨w.heap.size, 11, none⟩) hb0 c11
      clear c11 d0
      refine wp_region_far (by kernel_rfl) (by kernel_rfl) ?_
      repeat (first | go_big_quiet_step (fail) | quiet_step (fail))
      refine wpQuiet_nil ?_
      intro _ hw'
      obtain ⟨q, hw''⟩ := hw'
      subst hw''
      have B5 := Lib.hid (J.out.below (far_below W1 q)).low
      clear g0 g8 g11
      go_wp2_with fail
      go_ret
      exact ⟨by rw [HYY.out]; try rfl, B5.out⟩
end

/- StPr5: What package state's areBatches and areInTheirBatches answer. -/
section
set_option maxRecDepth 100000
open Go.RowKit Go.ChangeShapes Go.WideShapes Go.ChangeAt
attribute [local go_sem ↓] ldOr stOr alOr bxOr bdOr ldBa stBa alBa bxBa bdBa ldSt stSt alSt bxSt bdSt ldEf stEf alEf bxEf eqEf bdEf bsEf ldGr bxGr eqGr ldCa bxCa eqCa
attribute [local go_sem] al_or bx_or st_ornew bd_or al_ba bx_ba st_banew bd_ba al_sta bx_sta st_stnew bd_sta al_ef bx_ef st_new bd_ef bs_ef bs_ef0 bx_gr ne_gr bx_ca ne_ca eq_caX eq_grX

set_option maxHeartbeats 8000000 in
theorem areBatches_any (r : StR) (w : World) (h : StP w r) : Calls Tryz.prog 84 #[stV r] w (Tell (goodB (odsOf r.ords) r.nb none (btsOf r.bats)) w) := by
  have I := Lib.hid (OnI.begin w r h)
  have p1 := h.bats.sl.cap
  have hl := h.bats.sl.len
  unfold maxLen at hl
  have HE := Lib.hid (show goodB (odsOf r.ords) r.nb none (btsOf r.bats) = goodB (odsOf r.ords) r.nb (prevB (btsOf r.bats) 0) ((btsOf r.bats).drop 0) from rfl)
  generalize goodB (odsOf r.ords) r.nb none (btsOf r.bats) = res at *
  clear h
  have c10 := I.out.one.st.2.2.2.2.2.1
  go_enter Tryz.func84, Tryz.ntmps84
  go_wp2_with fail
  generalize w.alloc (.cells (stC r) 37) = W0 at *
  go_loopw [8] (fun i wr => ∃ (k : Nat), k ≤ r.bats.length ∧ i = .int .i64 k ∧ Hid (res = goodB (odsOf r.ords) r.nb (prevB (btsOf r.bats) k) ((btsOf r.bats).drop k)) ∧ Hid (OnI w r wr)) (fun i _ => r.bats.length - (intOf i).toNat)
  case atStart => exact ⟨0, Nat.zero_le _, rfl, HE, I⟩
  case round =>
    clear I HE c10
    obtain ⟨k, hk, rfl, HF, HI⟩ := hrel
    by_cases hlt : k < r.bats.length
    · obtain ⟨b, o, e, hb, _, ld, _⟩ := HI.out.st.bats.ld k hlt
      have HD := Lib.hid (goodB_raw (odsOf r.ords) r.nb r.bats k hlt)
      have HS := Lib.hid (HI.out.st.bats.each _ (List.getElem_mem hlt))
      have HPV : ∀ j, k = j + 1 → ∃ y : BtR, prevB (btsOf r.bats) k = some y.b.id ∧ wr.cell? ⟨b, o + j * 9, none⟩ = some (.int .i64 y.b.id) := by
        intro j hj
        subst hj
        obtain ⟨b2, o2, e2, _, hc, _, _⟩ := HI.out.st.bats.ld j (by omega)
        rw [e] at e2
        injection e2 with e2
        injection e2 with e3 e4
        subst e3 e4
        exact ⟨r.bats[j]'(by omega), by rw [prevB_succ (by simpa [btsOf] using (by omega : j < r.bats.length))]; simp [btsOf], hc⟩
      have HPV := Lib.hid HPV
      have He := Lib.hid e
      rw [e]
      clear e
      generalize r.bats[k] = x at *
      have R := Lib.hid (Row.new wr (baC x) 98)
      have BW := Lib.hid ((Below.refl wr.heap.size wr).alloc (Nat.le_refl _) (.cells (baC x) 98))
      have J := Lib.hid (HI.out.more (.cells (baC x) 98))
      have CR := Lib.hid (fun W (hW : Below (wr.alloc (.cells (baC x) 98)).heap.size (wr.alloc (.cells (baC x) 98)) W) => isBatch_any x W ((HS.out.below BW.out).below hW))
      have HSp := Lib.hid (batchOk_split (odsOf r.ords) r.nb x.b)
      cases k1 : isBt x.b with
      | false =>
        rw [k1] at CR
        have HX := Lib.hid (show res = false by rw [HF.out, HD.out, HSp.out, k1]; rfl)
        go_wp2_with fail
        generalize wr.alloc (.cells (baC x) 98) = W1 at *
        have f1 : ∀ p : Far W1, LdX 98 (.pointer (some ⟨wr.heap.size, 0, none⟩)) (farOf W1 p) = .ok (.value (baV x)) (farOf W1 p) := fun p => ld_ba (R.out.below (far_below W1 p))
        have g0 := fun p : Far W1 => (R.out.below (far_below W1 p)).b.1.1
        have g7 := fun p : Far W1 => (J.out.below (far_below W1 p)).one.st.2.2.1
        have g10 : ∀ p : Far W1, (farOf W1 p).cell? ⟨w.heap.size, 10, none⟩ = some (.slice (some ⟨b, o, none⟩) r.bats.length r.bc) := fun p => by rw [← He.out]; exact (J.out.below (far_below W1 p)).one.st.2.2.2.2.2.1
        have C1 := Lib.hid (fun p : Far W1 => CR.out _ (far_below W1 p))
        clear ld CR
        refine wp_region_far (by kernel_rfl) (by kernel_rfl) ?_
        repeat (first | go_big_quiet_step ((go_at_call 123; exact calls_far (C1.out _))) | quiet_step ((go_at_call 123; exact calls_far (C1.out _))))
        refine wpQuiet_nil ?_
        intro _ hw'
        obtain ⟨q, hw''⟩ := hw'
        subst hw''
        have B5 := Lib.hid (J.out.below (far_below W1 q)).low
        clear f1 g0 g7 g10 C1
        go_wp2_with fail
        go_ret
        exact ⟨by rw [HX.out]; try rfl, B5.out⟩
      | true =>
        rw [k1] at CR
        have hrb : rightBt x.b = true := by
          unfold isBt at k1
          rw [Bool.and_eq_true] at k1
          exact k1.1
        obtain ⟨hkd, _, hmem⟩ := rightBt_kind hrb
        have CM := Lib.hid (fun W hW hb => areItsMembers_any r x W hW hb hkd (Nat.le_trans hmem (by decide)))
        clear hrb hkd hmem
        cases k2 : decide (x.b.id < r.nb) with
        | false =>
          have k2d : r.nb ≤ x.b.id := by simpa using k2
          have HX := Lib.hid (show res = false by rw [HF.out, HD.out, HSp.out, k1, k2]; rfl)
          clear k2
          go_wp2_with fail
          generalize wr.alloc (.cells (baC x) 98) = W1 at *
          have f1 : ∀ p : Far W1, LdX 98 (.pointer (some ⟨wr.heap.size, 0, none⟩)) (farOf W1 p) = .ok (.value (baV x)) (farOf W1 p) := fun p => ld_ba (R.out.below (far_below W1 p))
          have g0 := fun p : Far W1 => (R.out.below (far_below W1 p)).b.1.1
          have g7 := fun p : Far W1 => (J.out.below (far_below W1 p)).one.st.2.2.1
          have g10 : ∀ p : Far W1, (farOf W1 p).cell? ⟨w.heap.size, 10, none⟩ = some (.slice (some ⟨b, o, none⟩) r.bats.length r.bc) := fun p => by rw [← He.out]; exact (J.out.below (far_below W1 p)).one.st.2.2.2.2.2.1
          have C1 := Lib.hid (fun p : Far W1 => CR.out _ (far_below W1 p))
          clear ld CR CM
          refine wp_region_far (by kernel_rfl) (by kernel_rfl) ?_
          repeat (first | go_big_quiet_step ((go_at_call 123; exact calls_far (C1.out _))) | quiet_step ((go_at_call 123; exact calls_far (C1.out _))))
          refine wpQuiet_nil ?_
          intro _ hw'
          obtain ⟨q, hw''⟩ := hw'
          subst hw''
          have B5 := Lib.hid (J.out.below (far_below W1 q)).low
          clear f1 g0 g7 g10 C1
          go_wp2_with fail
          go_ret
          exact ⟨by rw [HX.out]; try rfl, B5.out⟩
        | true =>
          have k2d : ¬ r.nb ≤ x.b.id := by simpa using k2
          by_cases hk0 : 0 < k
          · obtain ⟨j, rfl⟩ : ∃ j, k = j + 1 := ⟨k - 1, by omega⟩
            obtain ⟨y, hpv, hpc⟩ := HPV.out j rfl
            cases k3 : decide (y.b.id < x.b.id) with
            | false =>
              have k3d : x.b.id ≤ y.b.id := by simpa using k3
              have HX := Lib.hid (show res = false by rw [HF.out, HD.out, HSp.out, k1, k2, hpv, aheadB]; simp only [k3, Bool.false_and, Bool.and_false])
              clear k2 k3 hpv
              go_wp2_with fail
              generalize wr.alloc (.cells (baC x) 98) = W1 at *
              have f1 : ∀ p : Far W1, LdX 98 (.pointer (some ⟨wr.heap.size, 0, none⟩)) (farOf W1 p) = .ok (.value (baV x)) (farOf W1 p) := fun p => ld_ba (R.out.below (far_below W1 p))
              have g0 := fun p : Far W1 => (R.out.below (far_below W1 p)).b.1.1
              have g7 := fun p : Far W1 => (J.out.below (far_below W1 p)).one.st.2.2.1
              have g10 : ∀ p : Far W1, (farOf W1 p).cell? ⟨w.heap.size, 10, none⟩ = some (.slice (some ⟨b, o, none⟩) r.bats.length r.bc) := fun p => by rw [← He.out]; exact (J.out.below (far_below W1 p)).one.st.2.2.2.2.2.1
              have C1 := Lib.hid (fun p : Far W1 => CR.out _ (far_below W1 p))
              have gp := far_cell (Nat.lt_of_lt_of_le hb BW.out.size) ((BW.out.cell (p := ⟨b, o + j * 9, none⟩) hb).trans hpc)
              clear ld CR CM hpc
              refine wp_region_far (by kernel_rfl) (by kernel_rfl) ?_
              repeat (first | go_big_quiet_step ((go_at_call 123; exact calls_far (C1.out _))) | quiet_step ((go_at_call 123; exact calls_far (C1.out _))))
              refine wpQuiet_nil ?_
              intro _ hw'
              obtain ⟨q, hw''⟩ := hw'
              subst hw''
              have B5 := Lib.hid (J.out.below (far_below W1 q)).low
              clear f1 g0 g7 g10 C1 gp
              go_wp2_with fail
              go_ret
              exact ⟨by rw [HX.out]; try rfl, B5.out⟩
            | true =>
              have k3d : ¬ x.b.id ≤ y.b.id := by simpa using k3
              have HF2 := Lib.hid (show res = ((x.b.mem.all (memOk (odsOf r.ords) x.b) && (x.b.wt == weighS (odsOf r.ords) x.b.mem)) && goodB (odsOf r.ords) r.nb (prevB (btsOf r.bats) (j + 1 + 1)) ((btsOf r.bats).drop (j + 1 + 1))) by rw [HF.out, HD.out, HSp.out, k1, k2, hpv, aheadB]; simp only [k3, Bool.true_and])
              clear k2 k3 hpv
              go_wp2_with fail
              generalize wr.alloc (.cells (baC x) 98) = W1 at *
              have f1 : ∀ p : Far W1, LdX 98 (.pointer (some ⟨wr.heap.size, 0, none⟩)) (farOf W1 p) = .ok (.value (baV x)) (farOf W1 p) := fun p => ld_ba (R.out.below (far_below W1 p))
              have g0 := fun p : Far W1 => (R.out.below (far_below W1 p)).b.1.1
              have g7 := fun p : Far W1 => (J.out.below (far_below W1 p)).one.st.2.2.1
              have g10 : ∀ p : Far W1, (farOf W1 p).cell? ⟨w.heap.size, 10, none⟩ = some (.slice (some ⟨b, o, none⟩) r.bats.length r.bc) := fun p => by rw [← He.out]; exact (J.out.below (far_below W1 p)).one.st.2.2.2.2.2.1
              have C1 := Lib.hid (fun p : Far W1 => CR.out _ (far_below W1 p))
              have gp := far_cell (Nat.lt_of_lt_of_le hb BW.out.size) ((BW.out.cell (p := ⟨b, o + j * 9, none⟩) hb).trans hpc)
              clear ld CR hpc
              refine wp_region_far (by kernel_rfl) (by kernel_rfl) ?_
              repeat (first | go_big_quiet_step ((go_at_call 123; exact calls_far (C1.out _))) | quiet_step ((go_at_call 123; exact calls_far (C1.out _))))
              refine wpQuiet_nil ?_
              intro _ hw'
              obtain ⟨q, hw''⟩ := hw'
              subst hw''
              have J2 := Lib.hid (J.out.below (far_below W1 q))
              have R2 := Lib.hid (R.out.below (far_below W1 q))
              have M2 := Lib.hid ((HS.out.below BW.out).below (far_below W1 q))
              clear f1 g0 g7 g10 C1 gp
              generalize farOf W1 q = W2 at *
              cases k5 : (x.b.mem.all (memOk (odsOf r.ords) x.b) && (x.b.wt == weighS (odsOf r.ords) x.b.mem)) with
              | false =>
                have HX := Lib.hid (show res = false by rw [HF2.out, k5]; rfl)
                rw [k5] at CM
                have l1 := ld_sta J2.out.one
                have l2 := ld_ba R2.out
                go_wp2_with fail
                refine (CM.out _ J2.out.st M2.out).mono ?_
                rintro e W9 ⟨rfl, b9⟩
                have B9 := Lib.hid (J2.out.below b9).low
                clear l1 l2 b9
                go_wp2_with fail
                go_ret
                exact ⟨by rw [HX.out]; try rfl, B9.out⟩
              | true =>
                have HX := Lib.hid (show res = goodB (odsOf r.ords) r.nb (prevB (btsOf r.bats) (j + 1 + 1)) ((btsOf r.bats).drop (j + 1 + 1)) by rw [HF2.out, k5]; rfl)
                rw [k5] at CM
                have l1 := ld_sta J2.out.one
                have l2 := ld_ba R2.out
                go_wp2_with fail
                refine (CM.out _ J2.out.st M2.out).mono ?_
                rintro e W9 ⟨rfl, b9⟩
                have J9 := Lib.hid (J2.out.below b9)
                clear l1 l2 b9
                go_wp2_with fail
                go_roundw
                case rel => exact ⟨j + 1 + 1, by omega, by go_num, HX, J9⟩
                case measure => simp [intOf]; omega
          · have HF2 := Lib.hid (show res = ((x.b.mem.all (memOk (odsOf r.ords) x.b) && (x.b.wt == weighS (odsOf r.ords) x.b.mem)) && goodB (odsOf r.ords) r.nb (prevB (btsOf r.bats) (k + 1)) ((btsOf r.bats).drop (k + 1))) by rw [HF.out, HD.out, HSp.out, k1, k2, show prevB (btsOf r.bats) k = none from if_pos (by omega)]; rfl)
            clear k2
            go_wp2_with fail
            generalize wr.alloc (.cells (baC x) 98) = W1 at *
            have f1 : ∀ p : Far W1, LdX 98 (.pointer (some ⟨wr.heap.size, 0, none⟩)) (farOf W1 p) = .ok (.value (baV x)) (farOf W1 p) := fun p => ld_ba (R.out.below (far_below W1 p))
            have g0 := fun p : Far W1 => (R.out.below (far_below W1 p)).b.1.1
            have g7 := fun p : Far W1 => (J.out.below (far_below W1 p)).one.st.2.2.1
            have g10 : ∀ p : Far W1, (farOf W1 p).cell? ⟨w.heap.size, 10, none⟩ = some (.slice (some ⟨b, o, none⟩) r.bats.length r.bc) := fun p => by rw [← He.out]; exact (J.out.below (far_below W1 p)).one.st.2.2.2.2.2.1
            have C1 := Lib.hid (fun p : Far W1 => CR.out _ (far_below W1 p))
            clear ld CR
            refine wp_region_far (by kernel_rfl) (by kernel_rfl) ?_
            repeat (first | go_big_quiet_step ((go_at_call 123; exact calls_far (C1.out _))) | quiet_step ((go_at_call 123; exact calls_far (C1.out _))))
            refine wpQuiet_nil ?_
            intro _ hw'
            obtain ⟨q, hw''⟩ := hw'
            subst hw''
            have J2 := Lib.hid (J.out.below (far_below W1 q))
            have R2 := Lib.hid (R.out.below (far_below W1 q))
            have M2 := Lib.hid ((HS.out.below BW.out).below (far_below W1 q))
            clear f1 g0 g7 g10 C1
            generalize farOf W1 q = W2 at *
            cases k5 : (x.b.mem.all (memOk (odsOf r.ords) x.b) && (x.b.wt == weighS (odsOf r.ords) x.b.mem)) with
            | false =>
              have HX := Lib.hid (show res = false by rw [HF2.out, k5]; rfl)
              rw [k5] at CM
              have l1 := ld_sta J2.out.one
              have l2 := ld_ba R2.out
              go_wp2_with fail
              refine (CM.out _ J2.out.st M2.out).mono ?_
              rintro e W9 ⟨rfl, b9⟩
              have B9 := Lib.hid (J2.out.below b9).low
              clear l1 l2 b9
              go_wp2_with fail
              go_ret
              exact ⟨by rw [HX.out]; try rfl, B9.out⟩
            | true =>
              have HX := Lib.hid (show res = goodB (odsOf r.ords) r.nb (prevB (btsOf r.bats) (k + 1)) ((btsOf r.bats).drop (k + 1)) by rw [HF2.out, k5]; rfl)
              rw [k5] at CM
              have l1 := ld_sta J2.out.one
              have l2 := ld_ba R2.out
              go_wp2_with fail
              refine (CM.out _ J2.out.st M2.out).mono ?_
              rintro e W9 ⟨rfl, b9⟩
              have J9 := Lib.hid (J2.out.below b9)
              clear l1 l2 b9
              go_wp2_with fail
              go_roundw
              case rel => exact ⟨k + 1, by omega, by go_num, HX, J9⟩
              case measure => simp [intOf]; omega
    · have HX := Lib.hid (show res = true by rw [HF.out, List.drop_eq_nil_of_le (by simpa [btsOf] using (by omega : r.bats.length ≤ k))]; rfl)
      go_wp2_with fail
      go_ret
      exact ⟨by rw [HX.out]; try rfl, HI.out.low⟩

theorem heldIn_some {l : List Bt} {o : Od} {y : Bt} (h0 : (o.batch == 0) = false) (h : findB l o.batch = some y) : heldIn l o = hasT y.mem o.id := by
  unfold heldIn batchV
  rw [h0, h]
  rfl
theorem heldIn_none {l : List Bt} {o : Od} (h0 : (o.batch == 0) = false) (h : findB l o.batch = none) : heldIn l o = false := by
  unfold heldIn
  rw [h0, h]
  rfl
theorem heldIn_zero {l : List Bt} {o : Od} (h0 : (o.batch == 0) = true) : heldIn l o = true := by
  unfold heldIn
  rw [h0]
  rfl
theorem all_ods (l : List OdR) (P : Od → Bool) (k : Nat) (h : k < l.length) : ((odsOf l).drop k).all P = (P l[k].o && ((odsOf l).drop (k + 1)).all P) := by
  rw [all_drop P (odsOf l) k (by simpa [odsOf] using h)]
  simp [odsOf]

set_option maxHeartbeats 8000000 in
theorem areIn_any (r : StR) (w : World) (h : StP w r) : Calls Tryz.prog 85 #[stV r] w (Tell ((odsOf r.ords).all (heldIn (btsOf r.bats))) w) := by
  have I := Lib.hid (OnI.begin w r h)
  have CB := Lib.hid (fun id W hW => findBa_any r.ba r.bc r.bats id W hW)
  have p1 := h.ords.sl.cap
  have hl := h.ords.sl.len
  unfold maxLen at hl
  have HE := Lib.hid (show (odsOf r.ords).all (heldIn (btsOf r.bats)) = ((odsOf r.ords).drop 0).all (heldIn (btsOf r.bats)) from rfl)
  generalize (odsOf r.ords).all (heldIn (btsOf r.bats)) = res at *
  clear h
  have c9 := I.out.one.st.2.2.2.2.1
  go_enter Tryz.func85, Tryz.ntmps85
  go_wp2_with fail
  generalize w.alloc (.cells (stC r) 37) = W0 at *
  go_loopw [9] (fun i wr => ∃ (k : Nat), k ≤ r.ords.length ∧ i = .int .i64 k ∧ Hid (res = ((odsOf r.ords).drop k).all (heldIn (btsOf r.bats))) ∧ Hid (OnI w r wr)) (fun i _ => r.ords.length - (intOf i).toNat)
  case atStart => exact ⟨0, Nat.zero_le _, rfl, HE, I⟩
  case round =>
    clear I HE c9
    obtain ⟨k, hk, rfl, HF, HI⟩ := hrel
    by_cases hlt : k < r.ords.length
    · obtain ⟨b, o, e, hb, _, ld, _⟩ := HI.out.st.ords.ld k hlt
      have HD := Lib.hid (all_ods r.ords (heldIn (btsOf r.bats)) k hlt)
      rw [e]
      clear e
      generalize r.ords[k] = x at *
      have R := Lib.hid (Row.new wr (orC x) 93)
      have J := Lib.hid (HI.out.more (.cells (orC x) 93))
      have d9 := R.out.o.2.2.2.2.2
      have c10 := J.out.one.st.2.2.2.2.2.1
      cases k1 : (x.o.batch == 0) with
      | true =>
        have HX := Lib.hid (show res = ((odsOf r.ords).drop (k + 1)).all (heldIn (btsOf r.bats)) by rw [HF.out, HD.out, heldIn_zero k1, Bool.true_and])
        go_wp2_with fail
        go_roundw
        case rel => exact ⟨k + 1, by omega, by go_num, HX, J⟩
        case measure => simp [intOf]; omega
      | false =>
        have CB1 := Lib.hid (CB.out x.o.batch _ J.out.st.bats)
        have HQ := Lib.hid (first_or (isB x.o.batch) r.bats)
        go_wp2_with fail
        generalize wr.alloc (.cells (orC x) 93) = W1 at *
        generalize wr.heap.size = g at *
        rcases HQ.out with hn | ⟨j, hj, hjp, hjb⟩
        · rw [ptrG_none r.ba hn] at CB1
          have HX := Lib.hid (show res = false by rw [HF.out, HD.out, heldIn_none k1 (findB_none hn)]; rfl)
          clear hn HQ
          refine CB1.out.mono ?_
          rintro e w1 ⟨rfl, rfl⟩
          have g0 : ∀ p : Far W1, (farOf W1 p).cell? ⟨g, 0, none⟩ = some (.string x.o.id) := fun p => (R.out.below (far_below W1 p)).o.1.1
          clear ld d9 c10
          go_wp2_with fail
          refine wp_region_far (by kernel_rfl) (by kernel_rfl) ?_
          repeat (first | go_big_quiet_step (fail) | quiet_step (fail))
          refine wpQuiet_nil ?_
          intro _ hw'
          obtain ⟨q, hw''⟩ := hw'
          subst hw''
          have B5 := Lib.hid (J.out.below (far_below W1 q)).low
          clear g0
          go_wp2_with fail
          go_ret
          exact ⟨by rw [HX.out]; try rfl, B5.out⟩
        · obtain ⟨b2, o2, e2, hb3, hc, hP⟩ := J.out.st.bats.cells j hj
          have HM := Lib.hid (heldIn_some k1 (findB_at hj hjp hjb))
          rw [e2, ptrG_at hj hjp hjb, ← e2] at CB1
          have d8 : W1.cell? ⟨b2, o2 + j * 9 + 8, none⟩ = some (.slice r.bats[j].a r.bats[j].b.mem.length r.bats[j].c) := hc 8 _ rfl
          have hS := Lib.hid hP.mem
          clear hc hP HQ hjp hjb e2
          generalize r.bats[j] = y at *
          refine CB1.out.mono ?_
          rintro e w1 ⟨rfl, rfl⟩
          have g0 : ∀ p : Far W1, (farOf W1 p).cell? ⟨g, 0, none⟩ = some (.string x.o.id) := fun p => (R.out.below (far_below W1 p)).o.1.1
          have g8 := far_cell hb3 d8
          have C1 := Lib.hid (fun p : Far W1 => contains_any y.a y.c y.b.mem x.o.id _ (hS.out.below (far_below W1 p)))
          clear ld d9 c10 d8 CB1
          go_wp2_with fail
          cases k2 : hasT y.b.mem x.o.id with
          | false =>
            rw [k2] at C1
            have HX := Lib.hid (show res = false by rw [HF.out, HD.out, HM.out, k2]; rfl)
            refine wp_region_far (by kernel_rfl) (by kernel_rfl) ?_
            repeat (first | go_big_quiet_step ((go_at_call 127; exact calls_far_same (C1.out _))) | quiet_step ((go_at_call 127; exact calls_far_same (C1.out _))))
            refine wpQuiet_nil ?_
            intro _ hw'
            obtain ⟨q, hw''⟩ := hw'
            subst hw''
            have B5 := Lib.hid (J.out.below (far_below W1 q)).low
            clear g0 g8 C1
            go_wp2_with fail
            go_ret
            exact ⟨by rw [HX.out]; try rfl, B5.out⟩
          | true =>
            rw [k2] at C1
            have HX := Lib.hid (show res = ((odsOf r.ords).drop (k + 1)).all (heldIn (btsOf r.bats)) by rw [HF.out, HD.out, HM.out, k2, Bool.true_and])
            refine wp_region_far (by kernel_rfl) (by kernel_rfl) ?_
            repeat (first | go_big_quiet_step ((go_at_call 127; exact calls_far_same (C1.out _))) | quiet_step ((go_at_call 127; exact calls_far_same (C1.out _))))
            refine wpQuiet_nil ?_
            intro _ hw'
            obtain ⟨q, hw''⟩ := hw'
            subst hw''
            have J5 := Lib.hid (J.out.below (far_below W1 q))
            clear g0 g8 C1
            go_wp2_with fail
            go_roundw
            case rel => exact ⟨k + 1, by omega, by go_num, HX, J5⟩
            case measure => simp [intOf]; omega
    · have HX := Lib.hid (show res = true by rw [HF.out, List.drop_eq_nil_of_le (by simpa [odsOf] using (by omega : r.ords.length ≤ k))]; rfl)
      go_wp2_with fail
      go_ret
      exact ⟨by rw [HX.out]; try rfl, HI.out.low⟩
end
end Go.Proofs.YtfmpibmhhfmajaaGreatDoor
