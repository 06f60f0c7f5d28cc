/- What Take of package lines answers, at every slice of lines. -/
import Derived.Test.YtijcgioggmphkaaDel
import Derived.Test.YtijcgioggmphkaaFind
import Derived.Test.YtijcgioggmphkaaSum
namespace Go.Proofs.Ytijcgioggmphkaa
open Go.RowKit

/-- Lines and an error's number, the lines in memory of the call's own. -/
def Taken (l : List Ln) (k : ByteArray) (q : Int) (w : World) (e : Ending) (w' : World) : Prop := ∃ a cap, e = .returned (.tuple #[.slice a (takeV l k q).length cap, .int .i64 (takeE l k q)]) ∧ LnsP w' a cap (takeV l k q) ∧ Below w.heap.size w w'

theorem takeE_nil {l : List Ln} {k : ByteArray} {q : Int} (h : takeV l k q = []) : takeE l k q = 41 := by unfold takeE; rw [h]; rfl
theorem takeE_ne {l : List Ln} {k : ByteArray} {q : Int} (h : takeV l k q ≠ []) : takeE l k q = 0 := by
  unfold takeE
  cases e : takeV l k q with
  | nil => exact absurd e h
  | cons => rfl

theorem takeL_size {l : List Ln} {k : ByteArray} {q : Int} (h : ∀ x ∈ l, x.sku.size ≤ maxLen) : ∀ x ∈ takeL l k q, x.sku.size ≤ maxLen := by
  intro x hx
  unfold takeL at hx
  obtain ⟨y, hy, e⟩ := List.mem_filterMap.1 hx
  unfold lessB at e
  split at e
  · split at e
    · injection e with e
      rw [← e]
      exact h y hy
    · cases e
  · injection e with e
    rw [← e]
    exact h y hy

theorem OwnL.read {w : World} {base : Nat} {a : Option Addr} {n cap : Nat} {ls : List Ln} (h : OwnL w base (.slice a n cap) ls) (hsz : ∀ x ∈ ls, x.sku.size ≤ maxLen) : LnsP w a cap ls := by
  obtain ⟨a', c', e, i⟩ := h.lns hsz
  injection e with e1 _ e2
  subst e1 e2
  exact i

theorem set_around (l : List Ln) (p : Nat) (x : Ln) : (l.set p x).take p ++ (l.set p x).drop (p + 1) = l.take p ++ l.drop (p + 1) := by
  rw [List.take_set_of_le (Nat.le_refl _), List.drop_set_of_lt (by omega)]

set_option maxHeartbeats 4000000 in
theorem take_any (a : Option Addr) (cap : Nat) (l : List Ln) (k : ByteArray) (q : Int) (w : World) (h : LnsP w a cap l) (hm : l.length ≤ 1000) :
    Calls Try.prog 11 #[.slice a l.length cap, .string k, .int .i64 q] w (Taken l k q w) := by
  have H := Lib.hid h
  have C := Lib.hid (right14_any a cap l w h (by unfold maxLen; omega))
  clear h
  cases hr : rightLB l with
  | false =>
    rw [hr] at C
    have E1 := Lib.hid (show takeV l k q = [] by unfold takeV; rw [hr]; rfl)
    have E2 := Lib.hid (takeE_nil E1.out)
    clear hr
    go_enter Try.func11, Try.ntmps11
    go_wp2_with fail
    refine C.out.mono ?_
    rintro e w1 ⟨rfl, b1⟩
    go_wp2_with fail
    go_ret2
    exact ⟨none, 0, by rw [E1.out, E2.out]; rfl, by rw [E1.out]; exact LnsP.nil _ _ _, b1⟩
  | true =>
    rw [hr] at C
    have HR := Lib.hid ((rightLB_iff l).1 hr)
    have HV := Lib.hid (show takeV l k q = if decide (1 ≤ q) && enoughB l k q then takeL l k q else [] by unfold takeV; rw [hr]; rfl)
    clear hr
    have C2 := Lib.hid (fun W (hW : LnsP W a cap l) => find_any a cap l k W hW (by omega) HR.out.2.2)
    cases hh : hasK l k with
    | false =>
      rw [hh] at C2
      have E1 := Lib.hid (show takeV l k q = [] by rw [HV.out, enough_none q hh]; simp)
      have E2 := Lib.hid (takeE_nil E1.out)
      clear hh
      generalize posK l k = p at *
      go_enter Try.func11, Try.ntmps11
      go_wp2_with fail
      refine C.out.mono ?_
      rintro e w1 ⟨rfl, b1⟩
      go_wp2_with fail
      refine (C2.out _ (H.out.below b1)).mono ?_
      rintro e w2 ⟨rfl, b2⟩
      have b3 := b1.trans (b2.mono b1.size)
      go_wp2_with fail
      go_ret2
      exact ⟨none, 0, by rw [E1.out, E2.out]; rfl, by rw [E1.out]; exact LnsP.nil _ _ _, b3⟩
    | true =>
      rw [hh] at C2
      obtain ⟨hp, hk⟩ := has_at HR.out.2.2 hh
      have hen := enough_at q _ hp HR.out.2.2
      have htl := takeL_at q _ hp HR.out.2.2
      have hln := lineB_of (HR.out.2.1 _ (List.getElem_mem hp))
      rw [hk] at hen htl
      have HEN := Lib.hid hen
      have HTL := Lib.hid htl
      clear hen htl hh hk
      generalize posK l k = p at *
      by_cases hq1 : 1 ≤ q
      · by_cases hq2 : q ≤ l[p].qty
        · have HV2 := Lib.hid (show takeV l k q = takeL l k q by rw [HV.out, HEN.out]; simp [hq1, hq2])
          have HSZ := Lib.hid (takeL_size (k := k) (q := q) H.out.size)
          have hne : l ≠ [] := by intro e; subst e; simp at hp
          have C3 := Lib.hid (fun W (hW : LnsP W a cap l) => clone_any a cap l W hW hne hm)
          clear hne
          have hlq1 := hln.2.1
          have hlq2 := hln.2.2.1
          clear hln
          go_enter Try.func11, Try.ntmps11
          go_wp2_with fail
          refine C.out.mono ?_
          rintro e w1 ⟨rfl, b1⟩
          go_wp2_with fail
          refine (C2.out _ (H.out.below b1)).mono ?_
          rintro e w2 ⟨rfl, b2⟩
          have b3 := b1.trans (b2.mono b1.size)
          have I2 := Lib.hid (H.out.below b3)
          obtain ⟨b, o, rfl, hb, c1, c2, c3, hsz⟩ := I2.out.at p hp
          have p1 := H.out.cap
          have OS := Lib.hid (fun (w : World) (base g n cap : Nat) (h : OwnL w base (.slice (some ⟨g, 0, none⟩) n cap) l) => h.set p hp (l[p].qty - q))
          have OA := Lib.hid (fun (w : World) (base : Nat) (v : Value) (h : OwnL w base v l) => h.at p hp)
          generalize hy : l[p] = y at *
          have HY := Lib.hid hy
          clear hy
          go_wp2_with fail
          refine (C3.out _ I2.out).mono ?_
          rintro e w4 ⟨v4, rfl, o4, b4⟩
          have b5 := b3.trans (b4.mono b3.size)
          obtain ⟨g, c4, ev, hg1, hg2, hg3, hg4, q1, q2, q3, hfz⟩ := OA.out _ _ _ o4
          subst ev
          have O5 := Lib.hid (OS.out _ _ _ _ _ o4)
          have f1 : w4.frozen? ⟨g, p * 3 + 1, none⟩ = false := hfz _
          have b6 := b5.setCell (p := ⟨g, p * 3 + 1, none⟩) (Nat.le_trans b3.size hg1) (.int .i64 (y.qty - q))
          unfold maxLen at hg4
          have r2 : (w4.setCell ⟨g, p * 3 + 1, none⟩ (.int .i64 (y.qty - q))).cell? ⟨g, p * 3 + 1, none⟩ = some (.int .i64 (y.qty - q)) := World.cell?_setCell_same _ _ _ q2
          have R2 := Lib.hid r2
          clear hfz o4 C C2 C3 OS OA r2
          by_cases hq3 : q < y.qty
          · have HT := Lib.hid (show takeV l k q = l.set p { y with qty := y.qty - q } by rw [HV2.out, HTL.out, if_pos hq3])
            have hne0 : ((y.qty - q) == 0) = false := by simp; omega
            have hlen : ¬ ((l.length : Int) = 0) := by omega
            have E2 := Lib.hid (takeE_ne (l := l) (k := k) (q := q) (by rw [HT.out]; intro e; have := congrArg List.length e; simp at this; subst this; simp at hp))
            have r2 := R2.out
            have I6 := Lib.hid (O5.out.read (by rw [← HT.out, HV2.out]; exact HSZ.out))
            go_wp2_with fail
            go_ret2
            exact ⟨some ⟨g, 0, none⟩, c4, by rw [HT.out, E2.out, List.length_set]; rfl, by rw [HT.out]; exact I6.out, b6⟩
          · have HT := Lib.hid (show takeV l k q = l.take p ++ l.drop (p + 1) by rw [HV2.out, HTL.out, if_neg hq3])
            have he0 : ((y.qty - q) == 0) = true := by simp; omega
            obtain ⟨m, hml⟩ : ∃ m, l.length = m + 1 := ⟨l.length - 1, by omega⟩
            have HTLn := Lib.hid (show (l.take p ++ l.drop (p + 1)).length = m by simp; omega)
            have r2 := R2.out
            rw [hml] at O5
            have C5 := Lib.hid (delete_any _ g c4 m p _ _ O5.out (by rw [List.length_set]; exact hml) (by omega) (by omega))
            rw [set_around] at C5
            rw [← HT.out] at C5
            have HSZ2 := Lib.hid (show ∀ x ∈ takeV l k q, x.sku.size ≤ maxLen by rw [HV2.out]; exact HSZ.out)
            have HML := Lib.hid hml
            have hpm : p ≤ m := by omega
            rw [← HT.out] at HTLn
            rw [hml] at p1 hg3 hm
            clear O5 HT HV HV2 HTL HEN HSZ H I2 hml HY
            generalize hL : l.length = L at *
            have hL' : L = m + 1 := HML.out
            clear hL
            subst hL'
            go_wp2_with fail
            refine C5.out.mono ?_
            rintro e w7 ⟨v7, rfl, o7, b7⟩
            obtain ⟨a7, c7, e7, i7⟩ := o7.lns HSZ2.out
            subst e7
            have I7 := Lib.hid i7
            clear o7 i7
            have b8 := b6.trans (b7.mono b3.size)
            by_cases hz : m = 0
            · have E1 := Lib.hid (show takeV l k q = [] from List.eq_nil_of_length_eq_zero (by rw [HTLn.out]; exact hz))
              have E2 := Lib.hid (takeE_nil E1.out)
              rw [HTLn.out]
              subst hz
              go_wp2_with fail
              go_ret2
              exact ⟨none, 0, by rw [E1.out, E2.out]; rfl, by rw [E1.out]; exact LnsP.nil _ _ _, b8⟩
            · have E2 := Lib.hid (takeE_ne (l := l) (k := k) (q := q) (by intro e; have h2 := HTLn.out; rw [e] at h2; exact hz h2.symm))
              have hz2 : ¬ ((m : Int) = 0) := by omega
              rw [HTLn.out]
              go_wp2_with fail
              go_ret2
              exact ⟨a7, c7, by rw [E2.out, HTLn.out]; rfl, I7.out, b8⟩
        · have E1 := Lib.hid (show takeV l k q = [] by rw [HV.out, HEN.out]; simp [hq2])
          have E2 := Lib.hid (takeE_nil E1.out)
          go_enter Try.func11, Try.ntmps11
          go_wp2_with fail
          refine C.out.mono ?_
          rintro e w1 ⟨rfl, b1⟩
          go_wp2_with fail
          refine (C2.out _ (H.out.below b1)).mono ?_
          rintro e w2 ⟨rfl, b2⟩
          have b3 := b1.trans (b2.mono b1.size)
          obtain ⟨b, o, rfl, hb, c1, c2, c3, hsz⟩ := (H.out.below b3).at p hp
          have p1 := H.out.cap
          generalize l[p] = y at *
          go_wp2_with fail
          go_ret2
          exact ⟨none, 0, by rw [E1.out, E2.out]; rfl, by rw [E1.out]; exact LnsP.nil _ _ _, b3⟩
      · have E1 := Lib.hid (show takeV l k q = [] by rw [HV.out]; simp [hq1])
        have E2 := Lib.hid (takeE_nil E1.out)
        go_enter Try.func11, Try.ntmps11
        go_wp2_with fail
        refine C.out.mono ?_
        rintro e w1 ⟨rfl, b1⟩
        go_wp2_with fail
        refine (C2.out _ (H.out.below b1)).mono ?_
        rintro e w2 ⟨rfl, b2⟩
        have b3 := b1.trans (b2.mono b1.size)
        go_wp2_with fail
        go_ret2
        exact ⟨none, 0, by rw [E1.out, E2.out]; rfl, by rw [E1.out]; exact LnsP.nil _ _ _, b3⟩

end Go.Proofs.Ytijcgioggmphkaa
