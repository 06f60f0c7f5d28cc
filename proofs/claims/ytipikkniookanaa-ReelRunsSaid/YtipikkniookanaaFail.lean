/- What Fail of package plate does. -/
import Derived.Test.YtipikkniookanaaBit
namespace Go.Proofs.Ytipikkniookanaa
open Go.RowKit

attribute [local go_sem ↓] ld26 ld66 st26 st66 bx26 al26 al66 bd26 bd66 bs61 bs48 mk48 eq26 ap61 ap48 ap49 cp46 cp48
attribute [local go_sem] bx_agg al_cell al_wr bd_zero bd_one bd_two bd_nine

theorem run_copy_wide {P : Program} (w : World) (dT sT ty elem : TypeId) (size : Nat) (b o dLen dCap : Nat) (a : Addr) (sLen sCap : Nat) (cs : List Value)
    (hu : P.underlying dT = some (.slice elem)) (hs : (P.info? elem).map (·.size) = some size) (hn : cs.length = Nat.min sLen dLen * size)
    (hsrc : ∀ j v, cs[j]? = some v → w.cell? (a.add j) = some v) (hc : ∀ j, j < cs.length → (w.cell? ⟨b, o + j, none⟩).isSome = true) (hf : ∀ j, j < cs.length → w.frozen? ⟨b, o + j, none⟩ = false) (h1 : ∀ v ∈ cs, v.oneCell' = true) :
    (Builtin.copy_ #[dT, sT] ty #[.slice (some ⟨b, o, none⟩) dLen dCap, .slice (some a) sLen sCap]).run P w = .ok (goInt (Nat.min sLen dLen)) (w.setCells b o cs) := by
  have hl := run_loadCells_list (P := P) w a cs hsrc
  have hst := run_storeCells_cells (P := P) b o cs 0 w (by simpa using hc) (by simpa using hf) h1
  cases hq : P.info? elem with
  | none => simp [hq] at hs
  | some i =>
    have hi : i.size = size := by simpa [hq] using hs
    simp [Builtin.copy_, run_underlying hu, Builtin.lenOf, Builtin.firstCells, sizeOf, typeInfo, hq, hi, ← hn, hl, hst]

/-- A copy between two blocks. -/
theorem cp_at {w : World} (t ty e : TypeId) (size : Nat) (hu : Try.prog.underlying t = some (.slice e)) (hs : (Try.prog.info? e).map (·.size) = some size) {b s : Nat} {T U : TypeId} {xs ys : List Value} (h1 : RowAt w b T xs) (h2 : RowAt w s U ys) (o p n m cd cs : Nat) (hm : n ≤ m)
    (vs : List Value) (hv : (ys.drop p).take (n * size) = vs) (hl : vs.length = n * size) (hx : o + n * size ≤ xs.length) (hone : ∀ v ∈ vs, v.oneCell' = true) :
    ∃ w', CpR t ty (.slice (some ⟨b, o, none⟩) m cd) (.slice (some ⟨s, p, none⟩) n cs) w = .ok (.value (.int .i64 (n : Int))) w' ∧ RowAt w' b T (putL xs o vs) ∧ Upd b w w' := by
  obtain ⟨h3, h4⟩ := h1.put (o := o) (vs := vs) (by rw [hl]; exact hx)
  refine ⟨_, ?_, h3, h4⟩
  have hmin : Nat.min n m = n := Nat.min_eq_left hm
  have hr := run_copy_wide (P := Try.prog) w t t ty e size b o m cd ⟨s, p, none⟩ n cs vs hu hs (by rw [hl, hmin]) (fun j v hj => by
      rw [add_at]
      refine h2.cell ?_
      rw [← hv, List.getElem?_take] at hj
      split at hj
      · rw [List.getElem?_drop] at hj; exact hj
      · cases hj) (fun j hj => by rw [h1.cell (List.getElem?_eq_getElem (show o + j < xs.length by omega))]; rfl) (fun j _ => h1.frozen _) hone
  rw [hmin] at hr
  simp only [CpR, Sem.run_bind, hr, Sem.run_pure, Result.andThen_ok, goInt]

theorem size5 : (Try.prog.info? 5).map (·.size) = some 1 := by kernel_rfl
theorem size26 : (Try.prog.info? 90).map (·.size) = some 64 := by kernel_rfl

theorem bv_one (l : List Nat) : ∀ v ∈ l.map bv, v.oneCell' = true := by
  intro v hv
  obtain ⟨x, _, rfl⟩ := List.mem_map.1 hv
  rfl

theorem putL_same (cur : List Value) (o n : Nat) (A : List Value) (h : o + A.length + n ≤ cur.length) : putL cur o (A ++ (cur.drop (o + A.length)).take n) = putL cur o A := by
  have e : ((cur.drop (o + A.length)).take n).length = n := by rw [List.length_take, List.length_drop]; omega
  have e2 : cur.drop (o + A.length + n) = (cur.drop (o + A.length)).drop n := by rw [List.drop_drop]
  unfold putL
  rw [List.length_append, e, ← Nat.add_assoc, e2, List.append_assoc, List.append_assoc, List.append_assoc, List.take_append_drop]

/-- Some bytes of a cell are laid over. -/
theorem rowL_tear {s : List (List Nat)} (h : Cells s) {c : List Nat} (hc : IsCell c) {i m : Nat} (hi : i < s.length) (hm : m ≤ 64) : putL (rowL s) (i * 64) ((c.take m).map bv) = rowL (s.set i (tear m c (s.getD i []))) := by
  have hd := getD_cell h hi
  have hl := rowL_len h
  have e1 : ((c.take m).map bv).length = m := by rw [List.length_map, List.length_take, hc.len]; omega
  rw [← rowL_set h (tear_is hc hd) hi, tear, List.map_append]
  have e2 : ((s.getD i []).drop m).map bv = ((rowL s).drop (i * 64 + ((c.take m).map bv).length)).take (64 - m) := by
    rw [e1, List.map_drop, ← rowL_cell h hi, List.drop_take, List.drop_drop]
  rw [e2, putL_same _ _ _ _ (by rw [e1]; omega)]

theorem failL_drop (keep : List Nat) (torn at_ : Int) {s : List (List Nat)} {l : List (Nat × List Nat)} {k : Nat} (hk : k < l.length) :
    failL keep torn at_ k (l.drop k) s = failL keep torn at_ (k + 1) (l.drop (k + 1)) (s.set l[k].1 (tear (keptN keep torn at_ k) l[k].2 (s.getD l[k].1 []))) := by
  rw [List.drop_eq_getElem_cons hk]
  rfl

section
variable {w w' : World} {R : Nat → Prop} {g bs bl : Nat} {lv : Value} {P : Pl}

/-- All that was loose is gone; it has power, and nobody counts. -/
theorem PlM.done (h : PlM w R g bs bl lv P) : PlM (((w.setCell ⟨g, 2, none⟩ (.slice none 0 0)).setCell ⟨g, 3, none⟩ (.int .i64 (-1))).setCell ⟨g, 4, none⟩ (.bool false)) R g bs bl (.slice none 0 0) { P with loose := [], left := -1, off := false } := by
  have h1 := h.clear
  have g1 : Pl.Good { P with loose := [], left := -1 } := ⟨h.good.size, h.good.most, h.good.cs, h.good.cl, h1.good.lo, by simp, by simp, by simp⟩
  have h2 : PlM ((w.setCell ⟨g, 2, none⟩ (.slice none 0 0)).setCell ⟨g, 3, none⟩ (.int .i64 (-1))) R g bs bl (.slice none 0 0) { P with loose := [], left := -1 } := h1.setHead g1 rfl rfl rfl rfl
  have g2 : Pl.Good { P with loose := [], left := -1, off := false } := ⟨h.good.size, h.good.most, h.good.cs, h.good.cl, h1.good.lo, by simp, by simp, by simp⟩
  exact h2.setHead g2 rfl rfl rfl rfl

/-- The plate is this one. -/
def UnitPost (Q : Pl) (R : Nat → Prop) (g : Nat) (w : World) (e : Ending) (w' : World) : Prop := e = .returned (.tuple #[]) ∧ PlateP w' (ext R w w') g Q ∧ Keep R w w'

set_option maxHeartbeats 8000000 in
set_option maxRecDepth 100000 in
theorem fail_any (h : PlM w R g bs bl lv P) (ka : Option Addr) (kc : Nat) (keep : List Nat) (hk : BytesP w ka kc keep) (hoff : keep ≠ [] → Off R ka) (torn at_ : Int) :
    Calls Try.prog 23 #[ptr g, .slice ka keep.length kc, .int .i64 torn, .int .i64 at_] w (UnitPost (P.fail keep torn at_) R g w) := by
  have HR := Lib.hid h.rg
  have HRS := Lib.hid h.rbs
  have HRL := Lib.hid h.rbl
  have HB := Lib.hid hk
  have HO := Lib.hid hoff
  have hfew := h.good.few
  obtain ⟨c0, c1, c2, c3, c4, hf⟩ := head_cells h.head
  obtain ⟨a, cap, rfl, hcap⟩ := own_slice h.lo
  have X0 := Lib.hid h
  have K0 := Lib.hid (Keep.refl R w)
  have hcl := clampN_le at_ 64
  clear h hk hoff
  go_enter Try.func23, Try.ntmps23
  go_wp2_with fail
  go_loopw [16] (fun i wr => ∃ (k : Nat) (s : List (List Nat)), k ≤ P.loose.length ∧ i = .int .i64 k ∧ s.length = P.sure.length ∧ Hid (PlM wr R g bs bl (.slice a P.loose.length cap) { P with sure := s }) ∧ Hid (failL keep torn at_ k (P.loose.drop k) s = failL keep torn at_ 0 P.loose P.sure) ∧ Hid (Keep R w wr)) (fun i _ => P.loose.length - (intOf i).toNat)
  case atStart => exact ⟨0, P.sure, Nat.zero_le _, rfl, rfl, X0, Lib.hid rfl, K0⟩
  case round =>
    clear c0 c1 c2 c3 c4 hf
    obtain ⟨k, s, hk, rfl, hsl, HP, HS, HK⟩ := hrel
    have hp := HP.out
    obtain ⟨c0, c1, c2, c3, c4, hf⟩ := head_cells hp.head
    by_cases hlt : k < P.loose.length
    · obtain ⟨bo, rfl, hbo, L1⟩ := hp.looseAt (k := k) hlt
      have hx := hp.good.lo _ (List.getElem_mem hlt)
      have HD := Lib.hid (failL_drop keep torn at_ (s := s) hlt)
      simp only at L1 hx
      generalize P.loose[k] = x at *
      obtain ⟨i, c⟩ := x
      simp only at hx
      obtain ⟨w3, s3, r3, b3, z3⟩ := copy_wr wr (x := (i, c)) hx.2
      have hkl := keptN_le keep torn at_ k
      have y0 := (wr_cells (w := w3.drew) (x := (i, c)) hx.2 r3).1
      have hp3 := (hp.below b3).drew
      obtain ⟨d0, d1, d2, d3, d4, df⟩ := head_cells hp3.head
      have hxn : i < s.length := hx.1
      obtain ⟨w4, s4, r4, u4⟩ := cp_at (w := w3.drew) 24 3 5 1 Try.underlying24 size5 hp3.rs r3 (i * 64) 1 (keptN keep torn at_ k) 64 64 64 hkl ((c.take (keptN keep torn at_ k)).map bv)
        (by rw [wrL, List.drop_one, List.tail_cons, Nat.mul_one, List.map_take]) (by rw [List.length_map, List.length_take, hx.2.len]; omega) (by rw [rowL_len hp.good.cs]; simp only; omega) (bv_one _)
      rw [rowL_tear hp.good.cs hx.2 hxn hkl] at r4
      have hct := tear_is (n := keptN keep torn at_ k) hx.2 (getD_cell hp.good.cs hxn)
      have g4 : Pl.Good { P with sure := s.set i (tear (keptN keep torn at_ k) c (s.getD i [])) } := ⟨by simpa using hp.good.size, by simpa using hp.good.most, hp.good.cs.set hct, hp.good.cl, by simpa using hp.good.lo, hp.good.few, hp.good.low, hp.good.high⟩
      have HP4 := Lib.hid (hp3.setSure u4 r4 g4 (by simp))
      have HK4 := Lib.hid ((HK.out.of_below b3).drew.upd u4 (fun _ => HRS.out))
      have HN := Lib.hid (show failL keep torn at_ (k + 1) (P.loose.drop (k + 1)) (s.set i (tear (keptN keep torn at_ k) c (s.getD i []))) = failL keep torn at_ 0 P.loose P.sure by rw [← HS.out, HD.out])
      have CW := Lib.hid (within_any at_ 64 w3)
      have CB := Lib.hid (bit_any ka kc keep k w3 ((HB.out.keep HK.out HO.out).below b3) (by omega))
      simp only at y0 d0 d1
      have EK := Lib.hid (show keptN keep torn at_ k = if (k : Int) = torn then clampN at_ 64 else if bitOf keep k then 64 else 0 from rfl)
      generalize s.set i (tear (keptN keep torn at_ k) c (s.getD i [])) = s4' at *
      have hsl4 : s4'.length = P.sure.length := by
        have := HP4.out.good.size
        simp only at this
        have h2 := hp.good.size
        simp only at h2
        omega
      clear hp hp3 r3 b3 r4 u4 g4 HD hx hct
      cases t1 : ((k : Int) == torn) with
      | true =>
        rw [if_pos (by simpa using t1)] at EK
        rw [EK.out] at s4
        generalize clampN at_ 64 = kp at *
        have hkp : (kp : Int) ≤ 64 := by omega
        have hkp0 : (0 : Int) ≤ (kp : Int) := by omega
        clear EK CB hkl
        go_wp2_with fail
        refine CW.out.mono ?_
        rintro e w' ⟨rfl, rfl⟩
        go_wp2_with fail
        go_region
        go_wp2_with fail
        go_roundw
        case rel => exact ⟨k + 1, s4', by omega, by go_num, hsl4, HP4, HN, HK4⟩
        case measure => simp [intOf]; omega
      | false =>
        rw [if_neg (by simpa using t1)] at EK
        cases t2 : bitOf keep k with
        | true =>
          rw [t2, if_pos rfl] at EK
          rw [EK.out] at s4
          rw [t2] at CB
          clear EK CW hkl t2
          go_wp2_with fail
          refine CB.out.mono ?_
          rintro e w' ⟨rfl, rfl⟩
          go_wp2_with fail
          go_region
          go_wp2_with fail
          go_roundw
          case rel => exact ⟨k + 1, s4', by omega, by go_num, hsl4, HP4, HN, HK4⟩
          case measure => simp [intOf]; omega
        | false =>
          rw [t2, if_neg (by simp)] at EK
          rw [EK.out] at s4
          rw [t2] at CB
          clear EK CW hkl t2
          go_wp2_with fail
          refine CB.out.mono ?_
          rintro e w' ⟨rfl, rfl⟩
          go_wp2_with fail
          go_region
          go_wp2_with fail
          go_roundw
          case rel => exact ⟨k + 1, s4', by omega, by go_num, hsl4, HP4, HN, HK4⟩
          case measure => simp [intOf]; omega
    · have HE := Lib.hid (show s = failL keep torn at_ 0 P.loose P.sure by rw [← HS.out, List.drop_eq_nil_of_le (by omega)]; rfl)
      obtain ⟨w5, s5, r5, u5⟩ := cp_at (w := wr.drew) 67 3 90 64 Try.underlying67 size26 hp.drew.rl hp.drew.rs 0 0 s.length s.length s.length s.length (Nat.le_refl _) (rowL s)
        (by rw [List.drop_zero, List.take_of_length_le (by rw [rowL_len hp.good.cs]; simp)]) (rowL_len hp.good.cs) (by rw [rowL_len hp.good.cl]; have := hp.good.size; simp only at this ⊢; omega) (bv_one _)
      rw [putL_all (by rw [rowL_len hp.good.cl, rowL_len hp.good.cs]; have := hp.good.size; simp only at this ⊢; omega)] at r5
      have g5 : Pl.Good { P with sure := s, last := s } := ⟨rfl, hp.good.most, hp.good.cs, hp.good.cs, hp.good.lo, hp.good.few, hp.good.low, hp.good.high⟩
      have hp5 := hp.drew.setLast u5 r5 g5
      have HP5 := Lib.hid hp5.done
      have HK5 := Lib.hid (HK.out.drew.upd u5 (fun _ => HRL.out))
      obtain ⟨d0, d1, d2, d3, d4, df⟩ := head_cells hp5.head
      rw [hsl] at s5
      simp only at c0 c1 d0 d1
      clear hp hp5 g5 r5 u5
      go_wp2_with fail
      go_region
      go_wp2_with fail
      go_end0
      refine ⟨rfl, ⟨bs, bl, .slice none 0 0, ?_⟩, ?_⟩
      · show PlM _ _ g bs bl _ { sure := failL keep torn at_ 0 P.loose P.sure, last := failL keep torn at_ 0 P.loose P.sure, loose := [], left := -1, off := false }
        rw [← HE.out]
        exact HP5.out.ext
      · exact ((HK5.out.setCell (p := ⟨g, 2, none⟩) (fun _ => HR.out) _).setCell (p := ⟨g, 3, none⟩) (fun _ => HR.out) _).setCell (p := ⟨g, 4, none⟩) (fun _ => HR.out) _
end

end Go.Proofs.Ytipikkniookanaa
