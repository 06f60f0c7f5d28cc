/- LinesBack: the law returns true for any lines, any place and any number: what is taken and put back is as it was, and the order in which lines come doesn't matter. It has no conditions. -/
import Derived.Test.YtijcgioggmphkaaArgs
import Derived.Test.YtijcgioggmphkaaApp
import Derived.Deep.DeepCutAuto
import Derived.Deep.RegionLaw
namespace Go.Proofs.Ytijcgioggmphkaa
open Go.ChangeShapes Go.WideShapes Go.ChangeAt Go.RowKit

theorem step_append_lines {w : World} {ops : Array Oper} {o : Oper} {a : Act} {K : Act → World → Prop} {Q : Exit → Act → World → Prop} {E : Prop} (hgd : o.guard = none) (s x : Operand)
    (ho : o.op = .call { callee := .builtin .append, args := #[s, x], argTypes := #[22, 22] }) (base : Nat) (v : Value) (xs ys : List Ln) (hs : a.eval s = v) (hown : OwnL w base v xs) (hv : v ≠ .slice none 0 0) (A : Option Addr) (cA : Nat)
    (hx : a.eval x = .slice A ys.length cA) (hy : LnsP w A cA ys) (hlen : xs.length + ys.length ≤ 1000) (hb : base ≤ w.heap.size)
    (h : ∀ v' w', OwnL w' base v' (xs ++ ys) → w.grownBy w' v.ownBlock → v' ≠ .slice none 0 0 → K (a.put o.dst v') w') :
    if Region.wanted o (yielded ops a.tmps) = true then Oper.wp Try.prog o a w K Q else E := by
  have hw : Region.wanted o (yielded ops a.tmps) = true := by simp [Region.wanted, hgd]
  rw [if_pos hw]
  exact wp_append_lines s x ho base v xs ys hs hown hv A cA hx hy hlen hb h

theorem LnsP.kept {w w' : World} {row : Option Nat} {a : Option Addr} {cap : Nat} {l : List Ln} (h : LnsP w a cap l) (hg : w.grownBy w' row) (hne : ∀ ad : Addr, a = some ad → some ad.block ≠ row) : LnsP w' a cap l := by
  refine ⟨h.cap, h.size, fun hl => ?_⟩
  obtain ⟨b, o, e, hlt, hc⟩ := h.cell hl
  have hb := hne _ e
  refine ⟨b, o, e, Nat.lt_of_lt_of_le hlt hg.size, fun j x hx => ?_⟩
  obtain ⟨c1, c2, c3⟩ := hc j x hx
  exact ⟨hg.cell c1 hb, hg.cell c2 hb, hg.cell c3 hb⟩

/-- What becomes of taken pieces that are put back. -/
structure BackOk (m : List Ln) (x : Ln) (q : Int) : Prop where
  q1 : 1 ≤ q
  q2 : q ≤ x.qty
  val : mergeV (takeV m x.sku q ++ [{ x with qty := q }]) = m
  err : mergeE (takeV m x.sku q ++ [{ x with qty := q }]) = 0
  pieces : piecesV (takeV m x.sku q) + q = piecesV m
  weight : weightV (takeV m x.sku q) + q * x.wt = weightV m
  p0 : 0 ≤ piecesV (takeV m x.sku q)
  w0 : 0 ≤ weightV (takeV m x.sku q)
  p1 : piecesV m ≤ 8000
  w1 : weightV m ≤ 800000000
  qw0 : 0 ≤ q * x.wt
  ne : takeV m x.sku q ≠ []

theorem back_facts {m : List Ln} {x : Ln} (q : Int) (hr : rightLB m = true) (hx : x ∈ m) :
    (takeV m x.sku q = [] ∧ (q < 1 ∨ x.qty < q ∨ 1 ≤ q ∧ q ≤ x.qty ∧ m.length = 1 ∧ q = x.qty)) ∨ BackOk m x q := by
  obtain ⟨⟨_, hl8⟩, hline, hs⟩ := (rightLB_iff _).1 hr
  by_cases h1 : 1 ≤ q
  · by_cases h2 : q ≤ x.qty
    · have hen : enoughB m x.sku q = true := by
        rw [enoughB, List.any_eq_true]
        exact ⟨x, hx, by simp [h2]⟩
      have hv : takeV m x.sku q = takeL m x.sku q := by
        unfold takeV
        rw [hr, hen]
        simp [h1]
      have tk := took hr hx h1 h2
      by_cases hne : takeL m x.sku q = []
      · exact Or.inl ⟨by rw [hv, hne], Or.inr (Or.inr ⟨h1, h2, tk.nil.1 hne⟩)⟩
      · have hrt := tk.right hne
        obtain ⟨⟨_, ht8⟩, htl, _⟩ := (rightLB_iff _).1 hrt
        have b1 := sum_bound m hline
        have b2 := sum_bound _ htl
        have hxl := lineB_of (hline x hx)
        have pm : piecesV m = sumQ m := by unfold piecesV; rw [hr]; rfl
        have wm : weightV m = sumW m := by unfold weightV; rw [hr]; rfl
        have pt : piecesV (takeL m x.sku q) = sumQ (takeL m x.sku q) := by unfold piecesV; rw [hrt]; rfl
        have wt : weightV (takeL m x.sku q) = sumW (takeL m x.sku q) := by unfold weightV; rw [hrt]; rfl
        have e1 := tk.pieces
        have e2 := tk.heavy
        refine Or.inr ⟨h1, h2, ?_, ?_, ?_, ?_, ?_, ?_, ?_, ?_, ?_, ?_⟩
        · rw [hv]; exact mergeV_of tk.back
        · rw [hv]; exact mergeE_of tk.back
        · rw [hv, pm, pt]; exact e1
        · rw [hv, wm, wt]; exact e2
        · rw [hv, pt]; omega
        · rw [hv, wt]; omega
        · rw [pm]; omega
        · rw [wm]; omega
        · exact Int.mul_nonneg (by omega) hxl.2.2.2.1
        · rw [hv]; exact hne
    · refine Or.inl ⟨?_, Or.inr (Or.inl (by omega))⟩
      have hen : enoughB m x.sku q = false := by
        obtain ⟨A, B, rfl⟩ := List.append_of_mem hx
        rw [enough_split q hs]
        simp; omega
      unfold takeV
      rw [hen]
      simp
  · refine Or.inl ⟨?_, Or.inl (by omega)⟩
    unfold takeV
    simp [h1]

theorem take_apart {m : List Ln} {x : Ln} {q : Int} (hr : rightLB m = true) (hx : x ∈ m) (hq : 1 ≤ q) : ∀ y ∈ takeV m x.sku q, ¬ (y.sku = x.sku ∧ y.qty = x.qty) := by
  intro y hy
  have hs := ((rightLB_iff _).1 hr).2.2
  unfold takeV at hy
  split at hy
  · obtain ⟨z, hz, e⟩ := List.mem_filterMap.1 hy
    unfold lessB at e
    split at e
    · rename_i hk
      split at e
      · injection e with e
        have := same_key hs hz hx hk
        subst this
        rintro ⟨_, h2⟩
        rw [← e] at h2
        simp only at h2
        omega
      · cases e
    · rename_i hk
      injection e with e
      rintro ⟨h1, _⟩
      rw [← e] at h1
      exact hk h1
  · simp at hy

theorem box_apart {w : World} {B : Nat} {x : Ln} {a : Option Addr} {cap : Nat} {S : List Ln} (h : LnsP w a cap S) (hne : S ≠ []) (hS : ∀ y ∈ S, ¬ (y.sku = x.sku ∧ y.qty = x.qty)) (hb : w.heap[B]? = some (.cells #[.string x.sku, .int .i64 x.qty, .int .i64 x.wt] 27 (0, 0))) :
    ∀ ad : Addr, a = some ad → some ad.block ≠ some B := by
  intro ad ha he
  injection he with he
  obtain ⟨b, o, e, _, hc⟩ := h.cell hne
  rw [ha] at e
  injection e with e
  subst e
  simp only at he
  subst he
  cases S with
  | nil => exact hne rfl
  | cons y r =>
    obtain ⟨c1, c2, c3⟩ := hc 0 y rfl
    simp only [Nat.zero_mul, Nat.add_zero, World.cell?, hb] at c1 c2 c3
    have h3 : o + 2 < 3 := by
      have := (Array.getElem?_eq_some_iff.1 c3).1
      simpa using this
    have h0 : o = 0 := by omega
    subst h0
    simp at c1 c2
    exact hS y (by simp) ⟨c1.symm, c2.symm⟩

theorem takeV_len50 {m : List Ln} (hl : m.length ≤ 8) (k : ByteArray) (q : Int) : (takeV m k q).length ≤ 8 := by
  unfold takeV
  split
  · have := takeL_len m k q
    omega
  · simp

set_option maxHeartbeats 4000000 in
set_option maxRecDepth 100000 in
theorem back_walk (a : Option Addr) (cap : Nat) (l : List Ln) (at_ q : Int) (w : World) (h : LnsP w a cap l) (hm : l.length ≤ maxLen) : Calls Try.prog 7 #[.slice a l.length cap, .int .i64 at_, .int .i64 q] w (TrueB w) := by
  obtain ⟨i0, hi0, hz0, hzs, hzb⟩ := info_parts Try.info27
  have HI := Lib.hid (And.intro hi0 (And.intro hz0 (And.intro hzs hzb)))
  have H := Lib.hid h
  have HM := Lib.hid hm
  clear h hi0 hz0 hzs hzb
  unfold maxLen at hm
  cases ht : decide (50 < (l.length : Int)) with
  | true =>
    go_enter Try.func7, Try.ntmps7
    go_wp2_with fail
    refine (alive_any _).mono ?_
    rintro e w1 ⟨rfl, b1⟩
    go_wp2_with fail
    go_ret
    exact ⟨rfl, b1⟩
  | false =>
    have hl : l.length ≤ 50 := by simp at ht; omega
    have CA := Lib.hid (fun W (hw : LnsP W a cap l) => merge_any a cap l W hw (by omega))
    have CR := Lib.hid (fun a cap W (hw : LnsP W a cap l.reverse) => show Calls Try.prog 10 #[.slice a l.length cap] W (Merged l.reverse W) by have := merge_any a cap l.reverse W hw (by rw [List.length_reverse]; omega); rwa [List.length_reverse] at this)
    have HVR := Lib.hid (merge_perm (List.reverse_perm l))
    have HER := Lib.hid (mergeE_perm (List.reverse_perm l))
    have HMC := Lib.hid (mergeV_cases l)
    have hml := mergeV_le l
    have CS := Lib.hid (fun a1 a2 c1 c2 W (h1 : LnsP W a1 c1 (mergeV l)) (h2 : LnsP W a2 c2 (mergeV l)) => same_any a1 a2 c1 c2 (mergeV l) W h1 h2 (by have := mergeV_le l; omega))
    go_enter Try.func7, Try.ntmps7
    go_wp2_with fail
    refine (alive_any _).mono ?_
    rintro e w1 ⟨rfl, b1⟩
    have O0 := Lib.hid (own_fresh w1 w.heap.size b1.size)
    have b2 := b1.alloc b1.size (Obj.cells #[] 27)
    go_wp2_with fail
    generalize w1.alloc (Obj.cells #[] 27) = W0 at *
    go_loopw [7, 8] (fun s i wr => ∃ c : Nat, c ≤ l.length ∧ i = .int .i64 ((c : Int) - 1) ∧ Hid (OwnL wr w.heap.size s (l.drop c).reverse) ∧ Below w.heap.size w wr) (fun _ i _ => (intOf i + 1).toNat)
    case atStart => exact ⟨l.length, Nat.le_refl _, rfl, Lib.hid (by rw [List.drop_length]; exact O0.out), b2⟩
    case round =>
      clear O0 b1 b2
      obtain ⟨c, hc, rfl, HO, hbw⟩ := hrel
      cases c with
      | succ d =>
        have hlt : d < l.length := by omega
        obtain ⟨b, o, ea, hb, c1, c2, c3, hsz⟩ := (H.out.below hbw).at d hlt
        subst ea
        have p1 := H.out.cap
        have HN := Lib.hid (show (l.drop d).reverse = (l.drop (d + 1)).reverse ++ [l[d]] by rw [List.drop_eq_getElem_cons hlt, List.reverse_cons])
        have hln : (l.drop (d + 1)).reverse.length ≤ 50 := by rw [List.length_reverse, List.length_drop]; omega
        obtain ⟨a3, cc3, e3⟩ := HO.out.slice
        subst e3
        generalize l[d] = x at *
        generalize (l.drop (d + 1)).reverse = acc at *
        rw [show ((d + 1 : Nat) : Int) - 1 = (d : Int) by omega]
        clear hsz
        go_wp2_with (at_builtin; go_must (refine wpList_append_own _ rfl _ _ 22 rfl w.heap.size 27 i0 _ 3 32 Try.underlying22 HI.out.1 HI.out.2.1 HI.out.2.2.1 HI.out.2.2.2 rfl (by decide) _ _ _ rfl (World.ownsRow.alloc HO.out _) ⟨wr.heap.size, 0, none⟩ 1 1 [.string x.sku, .int .i64 x.qty, .int .i64 x.wt] rfl rfl (news1 _ _ _ _) (by simp [Value.oneCell']) (by unfold maxLen; omega) (by omega) (by have := hbw.size; simp; omega) ?_; intro v' w3 hown' hgrow3 hnil3))
        have b4 := Below.grown (hbw.alloc hbw.size (Obj.cells #[Value.string x.sku, Value.int IntKind.i64 x.qty, Value.int IntKind.i64 x.wt] 27)) hgrow3 (by have := hbw.size; simp; omega) (fun g hg => (World.ownsRow.lt HO.out g hg).1)
        have O4 := Lib.hid (ownL_snoc (x := x) hown')
        clear hown' hgrow3 hnil3
        go_wp2_with fail
        go_roundw
        case rel => exact ⟨d, by omega, rfl, Lib.hid (by rw [HN.out]; exact O4.out), b4⟩
        case measure => simp [intOf]
      | zero =>
        rw [List.drop_zero] at HO
        obtain ⟨a3, cc3, e3, i3⟩ := HO.out.lns (fun x hx => H.out.size x (List.mem_reverse.1 hx))
        subst e3
        have I3 := Lib.hid i3
        clear i3
        rw [show ((0 : Nat) : Int) - 1 = -1 from rfl]
        go_wp2_with fail
        refine (CA.out _ (H.out.below hbw)).mono ?_
        rintro e w2 ⟨a2, cc2, rfl, i2, b2⟩
        have I2 := Lib.hid i2
        have d2 := hbw.trans (b2.mono hbw.size)
        clear i2
        go_wp2_with fail
        refine (CR.out _ _ _ (I3.out.below b2)).mono ?_
        rintro e w3 ⟨a4, cc4, rfl, i4, b3⟩
        rw [HVR.out] at i4
        rw [HVR.out, HER.out]
        have I4 := Lib.hid i4
        have d3 := d2.trans (b3.mono d2.size)
        have J2 := Lib.hid (I2.out.below b3)
        clear i4
        rcases HMC.out with ⟨hv, he, _⟩ | ⟨hM, he⟩
        · have HV := Lib.hid hv
          rw [he]
          clear hv he HMC
          go_wp2_with fail
          refine (CS.out _ _ _ _ _ J2.out I4.out).mono ?_
          rintro e w4 ⟨rfl, b4⟩
          have d4 := d3.trans (b4.mono d3.size)
          rw [HV.out]
          go_wp2_with fail
          go_ret
          exact ⟨rfl, d4⟩
        · rw [he]
          have HR := Lib.hid hM.right
          have hm1 := ((rightLB_iff _).1 hM.right).1.1
          clear he HMC hM HVR HER CA CR
          generalize mergeV l = m at *
          go_wp2_with fail
          refine (CS.out _ _ _ _ _ J2.out I4.out).mono ?_
          rintro e w4 ⟨rfl, b4⟩
          have d4 := d3.trans (b4.mono d3.size)
          have J4 := Lib.hid (J2.out.below b4)
          obtain ⟨k, hkd⟩ : ∃ k : Nat, max 0 (min at_ ((m.length : Int) - 1)) = (k : Int) := ⟨(max 0 (min at_ ((m.length : Int) - 1))).toNat, by omega⟩
          have hkm : k < m.length := by omega
          obtain ⟨b, o, ea, hb, c1, c2, c3, hsz⟩ := J4.out.at k hkm
          subst ea
          have p1 := J4.out.cap
          have BF := Lib.hid (back_facts q HR.out (List.getElem_mem hkm))
          have hxq := (lineB_of (((rightLB_iff _).1 HR.out).2.1 _ (List.getElem_mem hkm))).2
          have HSZ := Lib.hid hsz
          have HTA := Lib.hid (fun (h : 1 ≤ q) => take_apart HR.out (List.getElem_mem hkm) h)
          clear hsz
          generalize m[k] = x at *
          obtain ⟨hx1, hx2, hx3, hx4⟩ := hxq
          have CT := Lib.hid (fun W (hW : LnsP W (some ⟨b, o, none⟩) cc2 m) => take_any _ cc2 m x.sku q W hW (by omega))
          have d5 := d4.alloc d4.size (Obj.cells #[Value.string x.sku, Value.int IntKind.i64 x.qty, Value.int IntKind.i64 x.wt] 27)
          have B5 := Lib.hid (show Below w4.heap.size w4 (w4.alloc (Obj.cells #[Value.string x.sku, Value.int IntKind.i64 x.qty, Value.int IntKind.i64 x.wt] 27)) from (Below.refl _ _).alloc (Nat.le_refl _) _)
          have D5 := Lib.hid (show (w4.alloc (Obj.cells #[Value.string x.sku, Value.int IntKind.i64 x.qty, Value.int IntKind.i64 x.wt] 27)).cell? ⟨w4.heap.size, 0, none⟩ = some (.string x.sku) ∧ (w4.alloc (Obj.cells #[Value.string x.sku, Value.int IntKind.i64 x.qty, Value.int IntKind.i64 x.wt] 27)).cell? ⟨w4.heap.size, 1, none⟩ = some (.int .i64 x.qty) ∧ (w4.alloc (Obj.cells #[Value.string x.sku, Value.int IntKind.i64 x.qty, Value.int IntKind.i64 x.wt] 27)).cell? ⟨w4.heap.size, 2, none⟩ = some (.int .i64 x.wt) ∧ (w4.alloc (Obj.cells #[Value.string x.sku, Value.int IntKind.i64 x.qty, Value.int IntKind.i64 x.wt] 27)).frozen? ⟨w4.heap.size, 1, none⟩ = false ∧ w4.heap.size < (w4.alloc (Obj.cells #[Value.string x.sku, Value.int IntKind.i64 x.qty, Value.int IntKind.i64 x.wt] 27)).heap.size from ⟨by simp, by simp, by simp, by simp, by simp⟩)
          have HB5 := Lib.hid (show (w4.alloc (Obj.cells #[Value.string x.sku, Value.int IntKind.i64 x.qty, Value.int IntKind.i64 x.wt] 27)).heap[w4.heap.size]? = some (.cells #[.string x.sku, .int .i64 x.qty, .int .i64 x.wt] 27 (0, 0)) from heap_alloc_new w4 _)
          go_wp2_with fail
          clear hkd c1 c2 c3
          generalize w4.alloc (Obj.cells #[Value.string x.sku, Value.int IntKind.i64 x.qty, Value.int IntKind.i64 x.wt] 27) = W5 at *
          refine (CT.out _ (J4.out.below B5.out)).mono ?_
          rintro e w7 ⟨a7, cc7, rfl, i7, b7⟩
          have I7 := Lib.hid i7
          have J7 := Lib.hid (J4.out.below (B5.out.trans (b7.mono B5.out.size)))
          have d7 := d5.trans (b7.mono d5.size)
          have D7 := Lib.hid (show w7.cell? ⟨w4.heap.size, 0, none⟩ = some (.string x.sku) ∧ w7.cell? ⟨w4.heap.size, 1, none⟩ = some (.int .i64 x.qty) ∧ w7.cell? ⟨w4.heap.size, 2, none⟩ = some (.int .i64 x.wt) ∧ w7.frozen? ⟨w4.heap.size, 1, none⟩ = false ∧ w4.heap.size < w7.heap.size from
            ⟨(b7.cell (p := ⟨w4.heap.size, 0, none⟩) D5.out.2.2.2.2).trans D5.out.1, (b7.cell (p := ⟨w4.heap.size, 1, none⟩) D5.out.2.2.2.2).trans D5.out.2.1, (b7.cell (p := ⟨w4.heap.size, 2, none⟩) D5.out.2.2.2.2).trans D5.out.2.2.1, (b7.frozen (p := ⟨w4.heap.size, 1, none⟩) D5.out.2.2.2.2).trans D5.out.2.2.2.1, Nat.lt_of_lt_of_le D5.out.2.2.2.2 b7.size⟩)
          clear i7
          have g1 := D7.out.2.1
          rcases BF.out with ⟨hS, hcase⟩ | hok
          · have HE := Lib.hid (takeE_nil hS)
            have HS := Lib.hid hS
            rw [HE.out, HS.out]
            clear hS
            rcases hcase with h1 | h1 | ⟨h1, h2, h3, h4⟩
            · go_wp2_with fail
              go_ret
              exact ⟨rfl, d7⟩
            · have h0 : ¬ q < 1 := by omega
              go_wp2_with fail
              go_ret
              exact ⟨rfl, d7⟩
            · have h5 : ¬ q < 1 := by omega
              have h6 : ¬ x.qty < q := by omega
              have h7 : ((m.length : Int) == 1) = true := by simp; omega
              have h8 : (q == x.qty) = true := by simp; omega
              clear h3 h4
              go_wp2_with fail
              go_ret
              exact ⟨rfl, d7⟩
          · have HE := Lib.hid (takeE_ne hok.ne)
            rw [HE.out]
            have HOK := Lib.hid hok
            have g4 := D7.out.2.2.2.1
            clear hok
            have HB7 := Lib.hid (show w7.heap[w4.heap.size]? = some (.cells #[.string x.sku, .int .i64 x.qty, .int .i64 x.wt] 27 (0, 0)) from (b7.block _ D5.out.2.2.2.2).trans HB5.out)
            have HAP := Lib.hid (box_apart I7.out HOK.out.ne (HTA.out HOK.out.q1) HB7.out)
            have G8 := Lib.hid (show w7.grownBy (w7.setCell ⟨w4.heap.size, 1, none⟩ (.int .i64 q)) (some w4.heap.size) from grown_setCell (.inr rfl) (grown_refl _ _) 1 _)
            have I8 := Lib.hid (I7.out.kept G8.out HAP.out)
            have J8 := Lib.hid (J7.out.kept G8.out (fun ad e h => by injection e with e; subst e; injection h with h; simp only at h; omega))
            have d8 := d7.setCell (p := ⟨w4.heap.size, 1, none⟩) d4.size (.int .i64 q)
            have D8 := Lib.hid (show (w7.setCell ⟨w4.heap.size, 1, none⟩ (.int .i64 q)).cell? ⟨w4.heap.size, 0, none⟩ = some (.string x.sku) ∧ (w7.setCell ⟨w4.heap.size, 1, none⟩ (.int .i64 q)).cell? ⟨w4.heap.size, 1, none⟩ = some (.int .i64 q) ∧ (w7.setCell ⟨w4.heap.size, 1, none⟩ (.int .i64 q)).cell? ⟨w4.heap.size, 2, none⟩ = some (.int .i64 x.wt) ∧ w4.heap.size < (w7.setCell ⟨w4.heap.size, 1, none⟩ (.int .i64 q)).heap.size from
              ⟨by rw [World.cell?_setCell_other _ _ _ _ (by intro h; injection h with h1 h2; omega)]; exact D7.out.1, World.cell?_setCell_same _ _ _ D7.out.2.1, by rw [World.cell?_setCell_other _ _ _ _ (by intro h; injection h with h1 h2; omega)]; exact D7.out.2.2.1, by simpa [World.setCell] using D7.out.2.2.2.2⟩)
            have hsl := takeV_len50 hml x.sku q
            have VB := Lib.hid HOK.out.val
            have EB := Lib.hid HOK.out.err
            have S1 := Lib.hid (show ∀ y ∈ takeV m x.sku q ++ [{ x with qty := q }], y.sku.size ≤ maxLen from fun y hy => by
              rcases List.mem_append.1 hy with hy | hy
              · exact I7.out.size y hy
              · rw [List.mem_singleton] at hy
                subst hy
                exact HSZ.out)
            have CB := Lib.hid (fun a cap W (hw : LnsP W a cap (takeV m x.sku q ++ [{ x with qty := q }])) => merge_any a cap _ W hw (by rw [List.length_append]; simp; omega))
            go_wp2_with fail
            generalize w7.setCell ⟨w4.heap.size, 1, none⟩ (.int .i64 q) = W8 at *
            clear g1 g4
            have CPS := Lib.hid (fun W (hW : LnsP W a7 cc7 (takeV m x.sku q)) => pieces_any a7 cc7 (takeV m x.sku q) W hW (by unfold maxLen; omega))
            have CWS := Lib.hid (fun W (hW : LnsP W a7 cc7 (takeV m x.sku q)) => weight_any a7 cc7 (takeV m x.sku q) W hW (by unfold maxLen; omega))
            have CPM := Lib.hid (fun W (hW : LnsP W (some ⟨b, o, none⟩) cc2 m) => pieces_any (some ⟨b, o, none⟩) cc2 m W hW (by unfold maxLen; omega))
            have CWM := Lib.hid (fun W (hW : LnsP W (some ⟨b, o, none⟩) cc2 m) => weight_any (some ⟨b, o, none⟩) cc2 m W hW (by unfold maxLen; omega))
            have hp := HOK.out.pieces
            have hw := HOK.out.weight
            have hp0 := HOK.out.p0
            have hw0 := HOK.out.w0
            have hp1 := HOK.out.p1
            have hw1 := HOK.out.w1
            have hqw := HOK.out.qw0
            have hq1 := HOK.out.q1
            clear HOK BF HTA
            generalize takeV m x.sku q = S at *
            generalize piecesV S = ps at *
            generalize weightV S = ws at *
            generalize piecesV m = pm at *
            generalize weightV m = wm at *
            go_cut [16, 17] (fun s16 s17 wx => ∃ a10 c10, s16 = .slice a10 m.length c10 ∧ s17 = .int .i64 0 ∧ Hid (LnsP wx a10 c10 m) ∧ Hid (Below W8.heap.size W8 wx))
            case first =>
              have own1 := Lib.hid (own_fresh W8.drew W8.heap.size (Nat.le_refl _))
              have BE := Lib.hid (show Below W8.heap.size W8 (W8.drew.alloc (Obj.cells #[] 27)) from (Below.refl _ _).drew.alloc (Nat.le_refl _) _)
              have BX := Lib.hid (show Below W8.heap.size W8 (W8.drew.alloc (Obj.cells #[Value.string x.sku, Value.int IntKind.i64 q, Value.int IntKind.i64 x.wt] 27)) from (Below.refl _ _).drew.alloc (Nat.le_refl _) _)
              have BEX := Lib.hid (show Below W8.heap.size W8 ((W8.drew.alloc (Obj.cells #[] 27)).alloc (Obj.cells #[Value.string x.sku, Value.int IntKind.i64 q, Value.int IntKind.i64 x.wt] 27)) from BE.out.alloc BE.out.size _)
              have BXE := Lib.hid (show Below W8.heap.size W8 ((W8.drew.alloc (Obj.cells #[Value.string x.sku, Value.int IntKind.i64 q, Value.int IntKind.i64 x.wt] 27)).alloc (Obj.cells #[] 27)) from BX.out.alloc BX.out.size _)
              have own2 := Lib.hid (show OwnL ((W8.drew.alloc (Obj.cells #[] 27)).alloc (Obj.cells #[Value.string x.sku, Value.int IntKind.i64 q, Value.int IntKind.i64 x.wt] 27)) W8.heap.size (.slice (some ⟨W8.heap.size, 0, none⟩) 0 0) [] from World.ownsRow.alloc own1.out _)
              have own3 := Lib.hid (show OwnL ((W8.drew.alloc (Obj.cells #[Value.string x.sku, Value.int IntKind.i64 q, Value.int IntKind.i64 x.wt] 27)).alloc (Obj.cells #[] 27)) W8.heap.size (.slice (some ⟨W8.heap.size + 1, 0, none⟩) 0 0) [] by
                have := own_fresh (W8.drew.alloc (Obj.cells #[Value.string x.sku, Value.int IntKind.i64 q, Value.int IntKind.i64 x.wt] 27)) W8.heap.size BX.out.size
                rwa [show (W8.drew.alloc (Obj.cells #[Value.string x.sku, Value.int IntKind.i64 q, Value.int IntKind.i64 x.wt] 27)).heap.size = W8.heap.size + 1 by simp] at this)
              have LB := Lib.hid (fun w => lns_block w [{ x with qty := q }] (by intro y hy; simp at hy; subst hy; exact HSZ.out) (by unfold maxLen; simp))
              have x2 := Lib.hid (show LnsP ((W8.drew.alloc (Obj.cells #[] 27)).alloc (Obj.cells #[Value.string x.sku, Value.int IntKind.i64 q, Value.int IntKind.i64 x.wt] 27)) (some ⟨W8.heap.size + 1, 0, none⟩) 1 [{ x with qty := q }] by
                have := LB.out (W8.drew.alloc (Obj.cells #[] 27))
                rwa [show (W8.drew.alloc (Obj.cells #[] 27)).heap.size = W8.heap.size + 1 by simp] at this)
              have x3 := Lib.hid (show LnsP ((W8.drew.alloc (Obj.cells #[Value.string x.sku, Value.int IntKind.i64 q, Value.int IntKind.i64 x.wt] 27)).alloc (Obj.cells #[] 27)) (some ⟨W8.heap.size, 0, none⟩) 1 [{ x with qty := q }] from (LB.out W8.drew).below ((Below.refl _ _).alloc (Nat.le_refl _) _))
              have f0 := D8.out.1
              have f1 := D8.out.2.1
              have f2 := D8.out.2.2.1
              have fz := D8.out.2.2.2
              go_region_law (first
                | (refine step_append_lines rfl (.tmp 108) (.tmp 109) rfl W8.heap.size _ [] S (by simp [Act.eval, Act.put]) own1.out (by intro e; cases e) a7 cc7 (by simp [Act.eval, Act.put]) (I8.out.below BE.out) (by rw [List.length_nil]; omega) BE.out.size ?_; intro v8 w8 o8 gr8 nv8; have B8 := Lib.hid (Below.grown BE.out gr8 BE.out.size (fun g hg => (World.ownsRow.lt own1.out g hg).1)); have y0 := (B8.out.cell (p := ⟨w4.heap.size, 0, none⟩) fz).trans f0; have y1 := (B8.out.cell (p := ⟨w4.heap.size, 1, none⟩) fz).trans f1; have y2 := (B8.out.cell (p := ⟨w4.heap.size, 2, none⟩) fz).trans f2)
                | (refine step_append_lines rfl (.tmp 108) (.tmp 109) rfl W8.heap.size _ [] S (by simp [Act.eval, Act.put]) own2.out (by intro e; cases e) a7 cc7 (by simp [Act.eval, Act.put]) (I8.out.below BEX.out) (by rw [List.length_nil]; omega) BEX.out.size ?_; intro v8 w8 o8 gr8 nv8; have B8 := Lib.hid (Below.grown BEX.out gr8 BEX.out.size (fun g hg => (World.ownsRow.lt own2.out g hg).1)); have X8 := Lib.hid (x2.out.kept gr8 (fun ad e h => by injection e with e; subst e; injection h with h; simp only at h; omega)))
                | (refine step_append_lines rfl (.tmp 108) (.tmp 109) rfl W8.heap.size _ [] S (by simp [Act.eval, Act.put]) own3.out (by intro e; cases e) a7 cc7 (by simp [Act.eval, Act.put]) (I8.out.below BXE.out) (by rw [List.length_nil]; omega) BXE.out.size ?_; intro v8 w8 o8 gr8 nv8; have B8 := Lib.hid (Below.grown BXE.out gr8 BXE.out.size (fun g hg => (World.ownsRow.lt own3.out g hg).1)); have X8 := Lib.hid (x3.out.kept gr8 (fun ad e h => by injection e with e; subst e; injection h with h; simp only at h; omega)))
                | (refine step_append_lines rfl (.tmp 110) (.tmp 112) rfl W8.heap.size v8 ([] ++ S) [{ x with qty := q }] (by simp [Act.eval, Act.put]) (World.ownsRow.alloc o8 _) nv8 (some ⟨w8.heap.size, 0, none⟩) 1 (by simp [Act.eval, Act.put]) (LB.out w8) (by simp; omega) (by have := B8.out.size; simp; omega) ?_; intro v9 w9 o9 gr9 nv9; have B9 := Lib.hid (Below.grown (B8.out.alloc B8.out.size (Obj.cells #[Value.string x.sku, Value.int IntKind.i64 q, Value.int IntKind.i64 x.wt] 27)) gr9 (by have := B8.out.size; simp; omega) (fun g hg => (World.ownsRow.lt o8 g hg).1)))
                | (refine step_append_lines rfl (.tmp 110) (.tmp 112) rfl W8.heap.size v8 ([] ++ S) [{ x with qty := q }] (by simp [Act.eval, Act.put]) o8 nv8 (some ⟨W8.heap.size + 1, 0, none⟩) 1 (by simp [Act.eval, Act.put]) X8.out (by simp; omega) (by have := B8.out.size; omega) ?_; intro v9 w9 o9 gr9 nv9; have B9 := Lib.hid (Below.grown B8.out gr9 B8.out.size (fun g hg => (World.ownsRow.lt o8 g hg).1)))
                | (refine step_append_lines rfl (.tmp 110) (.tmp 112) rfl W8.heap.size v8 ([] ++ S) [{ x with qty := q }] (by simp [Act.eval, Act.put]) o8 nv8 (some ⟨W8.heap.size, 0, none⟩) 1 (by simp [Act.eval, Act.put]) X8.out (by simp; omega) (by have := B8.out.size; omega) ?_; intro v9 w9 o9 gr9 nv9; have B9 := Lib.hid (Below.grown B8.out gr9 B8.out.size (fun g hg => (World.ownsRow.lt o8 g hg).1)))
                | (go_simp; go_at_call 10; rw [List.nil_append] at o9; obtain ⟨a9, c9, e9, i9⟩ := o9.lns S1.out; subst e9; refine (CB.out _ _ _ i9).mono ?_; rintro e w10 ⟨a10, c10, rfl, i10, b10⟩; rw [VB.out] at i10; rw [VB.out, EB.out]; have I10 := Lib.hid i10; have B10 := Lib.hid (B9.out.trans (b10.mono B9.out.size)); clear i10 b10 o9 o8 gr8 gr9))
              all_goals
                go_wp2_with fail
                go_meet
                exact ⟨a10, c10, rfl, rfl, I10, B10⟩
            case rest =>
              obtain ⟨a10, c10, rfl, rfl, I10, B10⟩ := hcut
              have dw := d8.trans (B10.out.mono d8.size)
              have IS := Lib.hid (I8.out.below B10.out)
              have IM := Lib.hid (J8.out.below B10.out)
              have fz := Nat.lt_of_lt_of_le D8.out.2.2.2 B10.out.size
              have m2 := far_cell (a := ⟨w4.heap.size, 2, none⟩) fz ((B10.out.cell (p := ⟨w4.heap.size, 2, none⟩) D8.out.2.2.2).trans D8.out.2.2.1)
              have r1 : IntKind.i64.wrap (ps + q) = ps + q := IntWalk.i64_in _ (by omega)
              have r2 : IntKind.i64.wrap (q * x.wt) = q * x.wt := IntWalk.i64_in _ (by omega)
              have r3 : IntKind.i64.wrap (ws + q * x.wt) = ws + q * x.wt := IntWalk.i64_in _ (by omega)
              have r4 : (ps + q == pm) = true := by simp [hp]
              have r5 : (ws + q * x.wt == wm) = true := by simp [hw]
              clear hp hw
              go_wp2_with fail
              refine wp_region_far (by kernel_rfl) (by kernel_rfl) ?_
              repeat (first | go_big_quiet_step ((first | (go_at_call 20; exact calls_far (CS.out _ _ _ _ _ (I10.out.below (far_below _ _)) (IM.out.below (far_below _ _)))) | (go_at_call 16; first | exact calls_far (CPS.out _ (IS.out.below (far_below _ _))) | exact calls_far (CPM.out _ (IM.out.below (far_below _ _)))) | (go_at_call 13; first | exact calls_far (CWS.out _ (IS.out.below (far_below _ _))) | exact calls_far (CWM.out _ (IM.out.below (far_below _ _)))))) | quiet_step ((first | (go_at_call 20; exact calls_far (CS.out _ _ _ _ _ (I10.out.below (far_below _ _)) (IM.out.below (far_below _ _)))) | (go_at_call 16; first | exact calls_far (CPS.out _ (IS.out.below (far_below _ _))) | exact calls_far (CPM.out _ (IM.out.below (far_below _ _)))) | (go_at_call 13; first | exact calls_far (CWS.out _ (IS.out.below (far_below _ _))) | exact calls_far (CWM.out _ (IM.out.below (far_below _ _)))))))
              refine wpQuiet_nil ?_
              intro _ hw'
              obtain ⟨p, hw''⟩ := hw'
              subst hw''
              go_wp2_with fail
              go_ret
              exact ⟨rfl, dw.trans ((far_below _ _).mono dw.size)⟩



set_option maxRecDepth 100000 in
theorem linesBack_lifted (os : Os) (started : os.Started) (H : Type) (enc : TypeId × Value → H) :
    ReturnsInHanded {} Try.checked os 7 .any (Rows.linesBackSpec.pre6 enc Try.prog Try.f7 Rows.linesBackRow.domain false) (Rows.linesBackSpec.post enc Try.prog Try.f7 false true false false) := by
  refine returnsInHanded_of_change (C := Try.checked) own started (by kernel_rfl) Try.func7
    (ChangeSpec.witness6 (enc := enc) (C := Try.checked) false ⟨#[], #[.slice none 0 0, .int .i64 0, .int .i64 0], []⟩ 8 (by kernel_rfl) (by kernel_rfl) (by kernel_rfl) (by kernel_rfl)) ?_
  intro W base args ds gs before hval0 hW _ _
  have hval : ∀ (j : Nat) t v, Try.f7.params[j]? = some t → args[j]? = some v → Value.okWide Try.prog W .any base t v := hval0
  have hW' := hW
  obtain ⟨p, q, hA0, hV, rfl, _, _⟩ := hW
  have hA : DataW.TrodAll enc Try.prog W 0 (fun _ => true) true Try.f7.params.toList args.toList ds p := hA0
  rw [Try.params7] at hA hval
  obtain ⟨v0, vs0, d0, ds0, p0, q_0, hargs, rfl, rfl, h0, r0⟩ := trodAll_cons hA
  obtain ⟨v1, vs1, d1, ds1, p1, q_1, rfl, rfl, rfl, h1, r1⟩ := trodAll_cons r0
  obtain ⟨v2, vs2, d2, ds2, p2, q_2, rfl, rfl, rfl, h2, r2⟩ := trodAll_cons r1
  obtain ⟨rfl, rfl, rfl⟩ := trodAll_nil r2
  obtain rfl : args = #[v0, v1, v2] := by cases args; simp_all
  obtain ⟨rfl, rfl⟩ := trodVars_none hV
  clear hA0 hval0
  simp only [List.append_nil] at hW'
  obtain ⟨q0, cap0, l0, rfl, hS0, hm0⟩ := lns_of_trod (hval 0 22 v0 rfl rfl) h0
  have hlt0 : ∀ x ∈ p0, x.block < W.heap.size := fun x hx => by simpa using hW'.lt x (by simpa using (by simp [hx]))
  obtain ⟨a1, rfl, rfl, rfl, w1⟩ := open_int Try.underlying3 (hval 1 3 v1 rfl rfl) h1
  obtain ⟨a2, rfl, rfl, rfl, w2⟩ := open_int Try.underlying2 (hval 2 2 v2 rfl rfl) h2
  refine (back_walk q0 cap0 l0 a1 a2 W hS0 hm0.1).mono fun e W' ⟨he, hb⟩ => ?_
  subst he
  have hT : DataW.TrodAll enc Try.prog W' 0 (fun b => decide (b < W.heap.size)) true _ _ _ _ := (trodAll_cons_mk (Below.trod laidOut (by kernel_rfl) (of_decide_eq_true (by kernel_rfl)) h0 hb hlt0) (trodAll_cons_mk (shut_int Try.underlying3 w1) (trodAll_cons_mk (shut_int Try.underlying2 w2) trodAll_mk0)))
  simp only [List.append_nil] at hT
  exact ⟨_, rfl, _, _, _, [], p0, [], hW', trodAll_mk1 (shut_bool Try.underlying4 _), hT, rfl, hb.frame _, fun h => by cases h⟩

theorem linesBack_holds : Rows.LinesBackSaid :=
  OpenClaim.holds_of_wide 7 Try.f7 rfl rfl rfl rfl rfl rfl rfl ⟨rfl, rfl, rfl, rfl, rfl⟩ rfl rfl rfl rfl rfl (by kernel_rfl) Try.func7 (by kernel_rfl)
    (of_decide_eq_true (by kernel_rfl)) (by unfold Func.isWrapper; first | (rw [if_pos (by decide +kernel)]; kernel_rfl) | (rw [if_neg (by decide +kernel)]; exact ⟨rfl, rfl⟩))
    (fun os started H enc _ => linesBack_lifted os started H enc)
#print axioms linesBack_holds


end Go.Proofs.Ytijcgioggmphkaa
