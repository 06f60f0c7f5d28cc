/- The document's own words on lines: what Take of package packhorseref04 answers, at every slice of lines. -/
import Derived.Test.YtijcgioggmphkaaRefRight
import Derived.Laws.AppendOwnNone
import Derived.Deep.AppendLies
namespace Go.Proofs.Ytijcgioggmphkaa
open Go.RowKit

theorem takeL_snoc (l : List Ln) (x : Ln) (k : ByteArray) (q : Int) : takeL (l ++ [x]) k q = takeL l k q ++ (lessB k q x).toList := by
  unfold takeL
  rw [List.filterMap_append]
  simp [List.filterMap_cons]
  cases lessB k q x <;> rfl
theorem hasK_snoc (l : List Ln) (x : Ln) (k : ByteArray) : hasK (l ++ [x]) k = (hasK l k || decide (x.sku = k)) := by simp [hasK]
theorem takeL_len (l : List Ln) (k : ByteArray) (q : Int) : (takeL l k q).length ≤ l.length := by
  unfold takeL
  exact List.length_filterMap_le _ _
theorem enough_has {l : List Ln} {k : ByteArray} {q : Int} (h : ∀ x ∈ l, x.sku = k → q ≤ x.qty) : enoughB l k q = hasK l k := by
  rw [Bool.eq_iff_iff, has_iff]
  simp only [enoughB, List.any_eq_true, Bool.and_eq_true, decide_eq_true_eq]
  exact ⟨fun ⟨x, hx, e, _⟩ => ⟨x, hx, e⟩, fun ⟨x, hx, e⟩ => ⟨x, hx, e, h x hx e⟩⟩

theorem news3 (w : World) (c1 : Obj) (v0 v1 v2 : Value) : ∀ j u, [v0, v1, v2][j]? = some u → ((w.alloc c1).alloc (.cells #[v0, v1, v2] 27)).cell? ((⟨w.heap.size + 1, 0, none⟩ : Addr).add j) = some u := by
  intro j u hj
  rw [Addr.add_lit, Nat.zero_add]
  have hs : (w.alloc c1).heap.size = w.heap.size + 1 := by simp
  match j, hj with
  | 0, hj => simp at hj; subst hj; rw [← hs]; simp
  | 1, hj => simp at hj; subst hj; rw [← hs]; simp
  | 2, hj => simp at hj; subst hj; rw [← hs]; simp
  | _ + 3, hj => simp at hj

theorem ownL_snoc {w : World} {base : Nat} {v : Value} {l : List Ln} {x : Ln} (h : w.ownsRow base 27 3 v (l.length + 1) (cellsL l ++ [.string x.sku, .int .i64 x.qty, .int .i64 x.wt])) : OwnL w base v (l ++ [x]) := by
  unfold OwnL
  rw [cellsL_append, List.length_append]
  exact h

theorem str_eq {a b : ByteArray} (h : a = b) : (a.toList == b.toList) = true := by rw [h]; simp
theorem str_ne {a b : ByteArray} (h : ¬ a = b) : (a.toList == b.toList) = false := by
  rw [beq_eq_false_iff_ne]
  intro e
  rw [ByteArray.toList_eq, ByteArray.toList_eq] at e
  apply h
  cases a; cases b
  simp only at e
  rw [Array.toList_inj] at e
  rw [e]

/-- A slice of the call's own, as a slice. -/
theorem OwnL.slice {w : World} {base : Nat} {v : Value} {l : List Ln} (h : OwnL w base v l) : ∃ a cap, v = .slice a l.length cap := by
  rcases h.2 with ⟨rfl, h0⟩ | ⟨g, cap, cur, rfl, _⟩
  · rw [h0]; exact ⟨none, 0, rfl⟩
  · exact ⟨_, _, rfl⟩

set_option maxHeartbeats 4000000 in
theorem refTake_any (a : Option Addr) (cap : Nat) (l : List Ln) (k : ByteArray) (q : Int) (w : World) (h : LnsP w a cap l) (hm : l.length ≤ 1000) :
    Calls Try.prog 21 #[.slice a l.length cap, .string k, .int .i64 q] w (Taken l k q w) := by
  obtain ⟨i0, hi0, hz0, hzs, hzb⟩ := info_parts Try.info27
  have HI := Lib.hid (And.intro hi0 (And.intro hz0 (And.intro hzs hzb)))
  have H := Lib.hid h
  have C := Lib.hid (refRight15_any a cap l w h (by unfold maxLen; omega))
  clear h hi0 hz0 hzs hzb
  cases hr : rightLB l with
  | false =>
    rw [hr] at C
    have E1 := Lib.hid (show takeV l k q = [] by unfold takeV; rw [hr]; rfl)
    have E2 := Lib.hid (takeE_nil E1.out)
    clear hr
    go_enter Try.func21, Try.ntmps21
    go_wp2_with fail
    refine C.out.mono ?_
    rintro e w1 ⟨rfl, b1⟩
    go_wp2_with fail
    go_ret2
    exact ⟨none, 0, by rw [E1.out, E2.out]; rfl, by rw [E1.out]; exact LnsP.nil _ _ _, b1⟩
  | true =>
    rw [hr] at C
    have HR := Lib.hid ((rightLB_iff l).1 hr)
    have HV := Lib.hid (show takeV l k q = if decide (1 ≤ q) && enoughB l k q then takeL l k q else [] by unfold takeV; rw [hr]; rfl)
    clear hr
    by_cases hq1 : 1 ≤ q
    · go_enter Try.func21, Try.ntmps21
      go_wp2_with fail
      refine C.out.mono ?_
      rintro e w1 ⟨rfl, b1⟩
      have hq1b : decide (q < 1) = false := by simp; omega
      have b2 := b1.alloc b1.size (.cells #[] 27)
      have O0 := Lib.hid (show OwnL (w1.alloc (.cells #[] 27)) w.heap.size (.slice (some ⟨w1.heap.size, 0, none⟩) 0 0) [] from World.ownsRow_made w1 #[] 0 b1.size (by unfold maxLen; omega) rfl)
      go_wp2_with fail
      generalize w1.alloc (.cells #[] 27) = W0 at *
      go_loopw [8, 9, 22] (fun s m i wr => ∃ (n : Nat), n ≤ l.length ∧ i = .int .i64 n ∧ m = .bool (hasK (l.take n) k) ∧ Hid (OwnL wr w.heap.size s (takeL (l.take n) k q)) ∧ Hid (∀ x ∈ l.take n, x.sku = k → q ≤ x.qty) ∧ Below w.heap.size w wr) (fun _ _ i _ => l.length - (intOf i).toNat)
      case atStart => exact ⟨0, Nat.zero_le _, rfl, rfl, O0, Lib.hid (by simp), b2⟩
      case round =>
        clear O0
        obtain ⟨n, hn, rfl, rfl, HO, HG, hbw⟩ := hrel
        by_cases hlt : n < l.length
        · obtain ⟨b, o, ea, hb, c1, c2, c3, hsz⟩ := (H.out.below hbw).at n hlt
          subst ea
          have p1 := H.out.cap
          have hx := lineB_of (HR.out.2.1 _ (List.getElem_mem hlt))
          obtain ⟨_, hx1, hx2, hx3, hx4⟩ := hx
          have HT := Lib.hid (List.take_succ_eq_append_getElem hlt)
          have HEN := Lib.hid (enough_at q n hlt HR.out.2.2)
          have htl := takeL_len (l.take n) k q
          have hnl : (l.take n).length ≤ 1000 := by rw [List.length_take]; omega
          have HG2 := Lib.hid (show (l[n].sku = k → q ≤ l[n].qty) → ∀ x ∈ l.take (n + 1), x.sku = k → q ≤ x.qty by
            intro hq x hx
            rw [HT.out, List.mem_append, List.mem_singleton] at hx
            rcases hx with hx | rfl
            · exact HG.out x hx
            · exact hq)
          have HTK := Lib.hid (show takeL (l.take (n + 1)) k q = takeL (l.take n) k q ++ (lessB k q l[n]).toList by rw [HT.out, takeL_snoc])
          have HHK := Lib.hid (show hasK (l.take (n + 1)) k = (hasK (l.take n) k || decide (l[n].sku = k)) by rw [HT.out, hasK_snoc])
          obtain ⟨a3, cc3, e3⟩ := HO.out.slice
          subst e3
          generalize l[n] = x at *
          generalize takeL (l.take n) k q = acc at *
          generalize hasK (l.take n) k = hk at *
          clear HT
          by_cases hsk : x.sku = k
          · have hs1 := str_eq hsk
            have HSK := Lib.hid hsk
            have HM := Lib.hid (show hasK (l.take (n + 1)) k = true by rw [HHK.out, HSK.out]; simp)
            clear hsk
            by_cases hq2 : x.qty < q
            · have E1 := Lib.hid (show takeV l k q = [] by
                have h := HEN.out
                rw [HSK.out] at h
                rw [HV.out, h]
                simp
                omega)
              have E2 := Lib.hid (takeE_nil E1.out)
              go_wp2_with fail
              go_ret2
              exact ⟨none, 0, by rw [E1.out, E2.out]; rfl, by rw [E1.out]; exact LnsP.nil _ _ _, hbw.alloc hbw.size _⟩
            · have HG2 := Lib.hid (HG2.out (fun _ => by omega))
              by_cases hq3 : q < x.qty
              · have HN := Lib.hid (show takeL (l.take (n + 1)) k q = acc ++ [{ x with qty := x.qty - q }] by rw [HTK.out, lessB, if_pos HSK.out, if_pos hq3]; rfl)
                go_wp2_with (at_builtin; go_must (refine wpList_append_own _ rfl _ _ 22 rfl w.heap.size 27 i0 _ 3 32 Try.underlying22 HI.out.1 HI.out.2.1 HI.out.2.2.1 HI.out.2.2.2 rfl (by decide) _ _ _ rfl (World.ownsRow.alloc (World.ownsRow.alloc HO.out _) _) ⟨wr.heap.size + 1, 0, none⟩ 1 1 [.string x.sku, .int .i64 (x.qty - q), .int .i64 x.wt] rfl rfl (news3 _ _ _ _ _) (by simp [Value.oneCell']) (by unfold maxLen; omega) (by omega) (by have := hbw.size; simp; omega) ?_; intro v' w3 hown' hgrow3 hnil3))
                have b4 := Below.grown ((hbw.alloc hbw.size (Obj.cells #[Value.string x.sku, Value.int IntKind.i64 (x.qty - q), Value.int IntKind.i64 x.wt] 27)).alloc (hbw.alloc hbw.size _).size (Obj.cells #[Value.string x.sku, Value.int IntKind.i64 (x.qty - q), Value.int IntKind.i64 x.wt] 27)) hgrow3 (by have := hbw.size; simp; omega) (fun g hg => (World.ownsRow.lt HO.out g hg).1)
                have O4 := Lib.hid (ownL_snoc (x := { x with qty := x.qty - q }) hown')
                clear hown' hgrow3 hnil3
                go_wp2_with fail
                go_roundw
                case rel => exact ⟨n + 1, by omega, by go_num, by rw [HM.out], Lib.hid (by rw [HN.out]; exact O4.out), HG2, b4⟩
                case measure => simp [intOf]; omega
              · have HN := Lib.hid (show takeL (l.take (n + 1)) k q = acc by rw [HTK.out, lessB, if_pos HSK.out, if_neg hq3]; simp)
                have O4 := Lib.hid (HO.out.below ((Below.refl wr.heap.size wr).alloc (Nat.le_refl _) (Obj.cells #[Value.string x.sku, Value.int IntKind.i64 (x.qty - q), Value.int IntKind.i64 x.wt] 27)))
                go_wp2_with fail
                go_roundw
                case rel => exact ⟨n + 1, by omega, by go_num, by rw [HM.out], Lib.hid (by rw [HN.out]; exact O4.out), HG2, hbw.alloc hbw.size _⟩
                case measure => simp [intOf]; omega
          · have hs1 := str_ne hsk
            have HSK := Lib.hid hsk
            have HM := Lib.hid (show hasK (l.take (n + 1)) k = hk by rw [HHK.out]; simp [hsk])
            have HN := Lib.hid (show takeL (l.take (n + 1)) k q = acc ++ [x] by rw [HTK.out, lessB, if_neg HSK.out]; rfl)
            have HG2 := Lib.hid (HG2.out (fun h => absurd h HSK.out))
            clear hsk
            go_wp2_with (at_builtin; go_must (refine wpList_append_own _ rfl _ _ 22 rfl w.heap.size 27 i0 _ 3 32 Try.underlying22 HI.out.1 HI.out.2.1 HI.out.2.2.1 HI.out.2.2.2 rfl (by decide) _ _ _ rfl (World.ownsRow.alloc (World.ownsRow.alloc HO.out _) _) ⟨wr.heap.size + 1, 0, none⟩ 1 1 [.string x.sku, .int .i64 x.qty, .int .i64 x.wt] rfl rfl (news3 _ _ _ _ _) (by simp [Value.oneCell']) (by unfold maxLen; omega) (by omega) (by have := hbw.size; simp; omega) ?_; intro v' w3 hown' hgrow3 hnil3))
            have b4 := Below.grown ((hbw.alloc hbw.size (Obj.cells #[Value.string x.sku, Value.int IntKind.i64 x.qty, Value.int IntKind.i64 x.wt] 27)).alloc (hbw.alloc hbw.size _).size (Obj.cells #[Value.string x.sku, Value.int IntKind.i64 x.qty, Value.int IntKind.i64 x.wt] 27)) hgrow3 (by have := hbw.size; simp; omega) (fun g hg => (World.ownsRow.lt HO.out g hg).1)
            have O4 := Lib.hid (ownL_snoc (x := x) hown')
            clear hown' hgrow3 hnil3
            go_wp2_with fail
            go_roundw
            case rel => exact ⟨n + 1, by omega, by go_num, by rw [HM.out], Lib.hid (by rw [HN.out]; exact O4.out), HG2, b4⟩
            case measure => simp [intOf]; omega
        · have HTL := Lib.hid (show l.take n = l from List.take_of_length_le (by omega))
          have HE := Lib.hid (show enoughB l k q = hasK l k from enough_has (by have := HG.out; rwa [HTL.out] at this))
          have HSZ := Lib.hid (takeL_size (k := k) (q := q) H.out.size)
          rw [HTL.out] at HO ⊢
          obtain ⟨a3, cc3, e3, i3⟩ := HO.out.lns HSZ.out
          subst e3
          have I3 := Lib.hid i3
          clear i3
          cases hh : hasK l k with
          | false =>
            have E1 := Lib.hid (show takeV l k q = [] by rw [HV.out, HE.out, hh]; simp)
            have E2 := Lib.hid (takeE_nil E1.out)
            clear hh
            go_wp2_with fail
            go_ret2
            exact ⟨none, 0, by rw [E1.out, E2.out]; rfl, by rw [E1.out]; exact LnsP.nil _ _ _, hbw⟩
          | true =>
            have E0 := Lib.hid (show takeV l k q = takeL l k q by rw [HV.out, HE.out, hh]; simp [hq1])
            clear hh
            by_cases hz : (takeL l k q).length = 0
            · have E1 := Lib.hid (show takeV l k q = [] by rw [E0.out]; exact List.eq_nil_of_length_eq_zero hz)
              have E2 := Lib.hid (takeE_nil E1.out)
              rw [hz]
              clear hz
              go_wp2_with fail
              go_ret2
              exact ⟨none, 0, by rw [E1.out, E2.out]; rfl, by rw [E1.out]; exact LnsP.nil _ _ _, hbw⟩
            · have E2 := Lib.hid (takeE_ne (l := l) (k := k) (q := q) (by rw [E0.out]; intro e; rw [e] at hz; exact hz rfl))
              have hz2 : ¬ (((takeL l k q).length : Int) = 0) := by omega
              go_wp2_with fail
              go_ret2
              exact ⟨a3, cc3, by rw [E0.out, E2.out]; rfl, by rw [E0.out]; exact I3.out, hbw⟩
    · have E1 := Lib.hid (show takeV l k q = [] by rw [HV.out]; simp [hq1])
      have E2 := Lib.hid (takeE_nil E1.out)
      go_enter Try.func21, Try.ntmps21
      go_wp2_with fail
      refine C.out.mono ?_
      rintro e w1 ⟨rfl, b1⟩
      go_wp2_with fail
      go_ret2
      exact ⟨none, 0, by rw [E1.out, E2.out]; rfl, by rw [E1.out]; exact LnsP.nil _ _ _, b1⟩

end Go.Proofs.Ytijcgioggmphkaa
