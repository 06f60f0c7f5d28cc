/- What Merge of package lines answers, at every slice of lines. -/
import Derived.Test.YtijcgioggmphkaaOwn
import Derived.Test.YtijcgioggmphkaaFind
import Derived.Test.YtijcgioggmphkaaSum
namespace Go.Proofs.Ytijcgioggmphkaa
open Go.RowKit

theorem addLn_size : ∀ {acc : List Ln} {x : Ln}, (∀ y ∈ acc, y.sku.size ≤ maxLen) → x.sku.size ≤ maxLen → ∀ y ∈ addLn acc x, y.sku.size ≤ maxLen := by
  intro acc x h hx y hy
  rcases (addLn_keys acc x y.sku).1 ⟨y, hy, rfl⟩ with ⟨z, hz, e⟩ | e
  · rw [← e]; exact h z hz
  · rw [← e]; exact hx

/-- The line is there, with its pieces still to come. -/
structure Added (acc acc1 : List Ln) (x : Ln) (p : Nat) (B : Int) : Prop where
  lt : p < acc1.length
  eq : acc1.set p { acc1[p] with qty := acc1[p].qty + x.qty } = addLn acc x
  bad : decide (acc1[p].wt ≠ x.wt) = wBad acc x
  len : acc1.length = (addLn acc x).length
  bnd : (∀ y ∈ acc, 0 ≤ y.qty ∧ y.qty ≤ B) → 0 ≤ acc1[p].qty ∧ acc1[p].qty ≤ B

theorem added_there {acc : List Ln} {x : Ln} (B : Int) (hs : sortedK acc) (h : hasK acc x.sku = true) : Added acc acc x (posK acc x.sku) B :=
  ⟨(has_at hs h).1, (addLn_there acc x hs h).symm, (wBad_there hs h).symm, by rw [addLn_there acc x hs h, List.length_set], fun hb => hb _ (List.getElem_mem _)⟩

theorem added_in {acc : List Ln} {x : Ln} (B : Int) (hB : 0 ≤ B) (hs : sortedK acc) (h : hasK acc x.sku = false) : Added acc (putAt acc (posK acc x.sku) { x with qty := 0 }) x (posK acc x.sku) B := by
  have hp := posK_le acc x.sku
  have hlt : posK acc x.sku < (putAt acc (posK acc x.sku) { x with qty := 0 }).length := by rw [putAt_len _ hp]; omega
  have hget : (putAt acc (posK acc x.sku) { x with qty := 0 })[posK acc x.sku]'hlt = { x with qty := 0 } := by
    have := putAt_get { x with qty := 0 } hp
    rw [List.getElem?_eq_getElem hlt] at this
    exact Option.some.inj this
  refine ⟨hlt, ?_, ?_, ?_, ?_⟩
  · rw [hget, putAt_set _ _ hp, addLn_in acc x hs h]
    simp
  · rw [hget, wBad_in h]
    simp
  · rw [addLn_in acc x hs h, putAt_len _ hp, putAt_len _ hp]
  · intro _
    rw [hget]
    simp only
    omega

/-- Lines and an error's number, the lines in memory of the call's own. -/
def Merged (l : List Ln) (w : World) (e : Ending) (w' : World) : Prop := ∃ a cap, e = .returned (.tuple #[.slice a (mergeV l).length cap, .int .i64 (mergeE l)]) ∧ LnsP w' a cap (mergeV l) ∧ Below w.heap.size w w'

set_option maxHeartbeats 4000000 in
theorem merge_any (a : Option Addr) (cap : Nat) (l : List Ln) (w : World) (h : LnsP w a cap l) (hm : l.length ≤ 1000) :
    Calls Try.prog 10 #[.slice a l.length cap] w (Merged l w) := by
  have H := Lib.hid h
  clear h
  go_enter Try.func10, Try.ntmps10
  go_wp2_with fail
  go_loopw [4, 11] (fun s i wr => ∃ (k : Nat) (acc : List Ln), k ≤ l.length ∧ i = .int .i64 k ∧ Hid (OwnL wr w.heap.size s acc) ∧ Hid (mergeG [] l = mergeG acc (l.drop k)) ∧ Hid (sortedK acc) ∧ Hid (∀ y ∈ acc, 0 ≤ y.qty ∧ y.qty ≤ 1000 * (k : Int)) ∧ Hid (∀ y ∈ acc, y.sku.size ≤ maxLen) ∧ acc.length ≤ 8 ∧ Below w.heap.size w wr) (fun _ i _ => l.length - (intOf i).toNat)
  case atStart => exact ⟨0, [], Nat.zero_le _, rfl, Lib.hid (OwnL.nil _ _), Lib.hid rfl, Lib.hid (by simp [sortedK]), Lib.hid (by simp), Lib.hid (by simp), by simp, Below.refl _ _⟩
  case round =>
    obtain ⟨k, acc, hk, rfl, HO, HS, HSo, HQ, HZ, ha8, hbw⟩ := hrel
    by_cases hlt : k < l.length
    · obtain ⟨b, o, rfl, hb, c1, c2, c3, hsz⟩ := (H.out.below hbw).at k hlt
      have p1 := H.out.cap
      have HD := Lib.hid (List.drop_eq_getElem_cons hlt)
      have C := Lib.hid (fun w => isLine_any l[k].sku l[k].qty l[k].wt w hsz)
      generalize l[k] = x at *
      have hbw1 := hbw.alloc hbw.size (Obj.cells #[Value.string x.sku, Value.int IntKind.i64 x.qty, Value.int IntKind.i64 x.wt] 27)
      cases hlb : lineB x with
      | false =>
        rw [show lineB ⟨x.sku, x.qty, x.wt⟩ = false from hlb] at C
        have E := Lib.hid (show mergeG [] l = none by rw [HS.out, HD.out, mergeG, if_pos hlb])
        have E1 := Lib.hid (show mergeV l = [] by unfold mergeV; rw [E.out]; rfl)
        have E2 := Lib.hid (show mergeE l = 41 by unfold mergeE; rw [E1.out]; rfl)
        clear hlb
        go_wp2_with fail
        refine (C.out _).mono ?_
        rintro e w1 ⟨rfl, b1⟩
        have b2 := hbw1.trans (b1.mono hbw1.size)
        go_wp2_with fail
        go_ret2
        exact ⟨none, 0, by rw [E1.out, E2.out]; rfl, by rw [E1.out]; exact LnsP.nil _ _ _, b2⟩
      | true =>
        rw [show lineB ⟨x.sku, x.qty, x.wt⟩ = true from hlb] at C
        have hx := lineB_of hlb
        have HX := Lib.hid hlb
        obtain ⟨_, hx1, hx2, hx3, hx4⟩ := hx
        clear hlb
        obtain ⟨a2, cc2, e2, i2⟩ := HO.out.lns HZ.out
        subst e2
        have I2 := Lib.hid i2
        have C2 := Lib.hid (fun W (hW : LnsP W a2 cc2 acc) => find_any a2 cc2 acc x.sku W hW (by omega) HSo.out)
        have AT := Lib.hid (fun h => added_there (x := x) (1000 * (k : Int)) HSo.out h)
        have AI := Lib.hid (fun h => added_in (x := x) (1000 * (k : Int)) (by omega) HSo.out h)
        have hpl := posK_le acc x.sku
        have hown := Lib.hid (show ∀ g, (Value.slice a2 acc.length cc2).ownBlock = some g → g < wr.heap.size from fun g hg => (World.ownsRow.lt HO.out g hg).2)
        have d0 : (wr.alloc (Obj.cells #[Value.string x.sku, Value.int IntKind.i64 x.qty, Value.int IntKind.i64 x.wt] 27)).cell? ⟨wr.heap.size, 0, none⟩ = some (.string x.sku) := by simp
        have d1 : (wr.alloc (Obj.cells #[Value.string x.sku, Value.int IntKind.i64 x.qty, Value.int IntKind.i64 x.wt] 27)).cell? ⟨wr.heap.size, 1, none⟩ = some (.int .i64 x.qty) := by simp
        have d2 : (wr.alloc (Obj.cells #[Value.string x.sku, Value.int IntKind.i64 x.qty, Value.int IntKind.i64 x.wt] 27)).cell? ⟨wr.heap.size, 2, none⟩ = some (.int .i64 x.wt) := by simp
        have hzz : (wr.alloc (Obj.cells #[Value.string x.sku, Value.int IntKind.i64 x.qty, Value.int IntKind.i64 x.wt] 27)).heap.size = wr.heap.size + 1 := by simp
        have D := Lib.hid (And.intro d0 (And.intro d1 (And.intro d2 hzz)))
        have BA := Lib.hid (show Below wr.heap.size wr (wr.alloc (Obj.cells #[Value.string x.sku, Value.int IntKind.i64 x.qty, Value.int IntKind.i64 x.wt] 27)) from (Below.refl _ _).alloc (Nat.le_refl _) _)
        clear i2 d0 d1 d2 hzz
        go_wp2_with fail
        generalize wr.alloc (Obj.cells #[Value.string x.sku, Value.int IntKind.i64 x.qty, Value.int IntKind.i64 x.wt] 27) = W1 at *
        refine (C.out _).mono ?_
        rintro e w2 ⟨rfl, b1⟩
        have b2 := hbw1.trans (b1.mono hbw1.size)
        have bb2 := Lib.hid (BA.out.trans (b1.mono BA.out.size))
        have z2 : wr.heap.size < w2.heap.size := by have := b1.size; have := D.out.2.2.2; omega
        have D2 := Lib.hid (show w2.cell? ⟨wr.heap.size, 0, none⟩ = some (.string x.sku) ∧ w2.cell? ⟨wr.heap.size, 1, none⟩ = some (.int .i64 x.qty) ∧ w2.cell? ⟨wr.heap.size, 2, none⟩ = some (.int .i64 x.wt) by
          have hz : wr.heap.size < W1.heap.size := by have := D.out.2.2.2; omega
          exact ⟨(b1.cell (p := ⟨wr.heap.size, 0, none⟩) hz).trans D.out.1, (b1.cell (p := ⟨wr.heap.size, 1, none⟩) hz).trans D.out.2.1, (b1.cell (p := ⟨wr.heap.size, 2, none⟩) hz).trans D.out.2.2.1⟩)
        have d0 := D2.out.1
        go_wp2_with fail
        refine (C2.out _ (I2.out.below bb2.out)).mono ?_
        rintro e w3 ⟨rfl, b3⟩
        have z3 : wr.heap.size < w3.heap.size := by have := b3.size; omega
        have D3 := Lib.hid (show w3.cell? ⟨wr.heap.size, 0, none⟩ = some (.string x.sku) ∧ w3.cell? ⟨wr.heap.size, 1, none⟩ = some (.int .i64 x.qty) ∧ w3.cell? ⟨wr.heap.size, 2, none⟩ = some (.int .i64 x.wt) by
          exact ⟨(b3.cell (p := ⟨wr.heap.size, 0, none⟩) z2).trans D2.out.1, (b3.cell (p := ⟨wr.heap.size, 1, none⟩) z2).trans D2.out.2.1, (b3.cell (p := ⟨wr.heap.size, 2, none⟩) z2).trans D2.out.2.2⟩)
        have b4 := b2.trans (b3.mono b2.size)
        have O3 := Lib.hid (HO.out.below (bb2.out.trans (b3.mono bb2.out.size)))
        clear d0
        cases ht : hasK acc x.sku with
        | true =>
          have A := AT.out ht
          clear AT AI ht C2 b1 b3 b2
          generalize posK acc x.sku = n at *
          have O4 := O3
          have E4 := Lib.hid (And.intro D3.out.2.1 D3.out.2.2)
          have GX := Lib.hid (show ∀ g, (Value.slice a2 acc.length cc2).ownBlock = some g → g ≠ wr.heap.size from fun g hg => by have := hown.out g hg; omega)
          go_wp2_with fail
          obtain ⟨g, c4, ev, hg1, hg2, hg3, hg4, q1, q2, q3, hfz⟩ := O4.out.at n A.lt
          first | subst ev | (injection ev with ea _ ec; subst ea; subst ec)
          have hgx : g ≠ wr.heap.size := GX.out g rfl
          have QB := Lib.hid (A.bnd HQ.out)
          have O5 := Lib.hid (O4.out.set n A.lt ((acc[n]'A.lt).qty + x.qty))
          have f1 : w3.frozen? ⟨g, n * 3 + 1, none⟩ = false := hfz _
          have hq0 := (QB.out).1
          have hq1 := (QB.out).2
          have e3 := E4.out.1
          have e4 := E4.out.2
          have HA := Lib.hid A.eq
          have HW := Lib.hid A.bad
          have hal := A.lt
          have HLn := Lib.hid A.len
          have hq0' : 0 ≤ (acc[n]'A.lt).qty := hq0
          have hq1' : (acc[n]'A.lt).qty ≤ 1000000 := by omega
          rw [HA.out] at O5
          generalize (acc[n]'A.lt) = y at *
          unfold maxLen at hg4
          clear hq0 hq1 hfz GX
          have O6 : OwnL ((w3.setCell ⟨g, n * 3 + 1, none⟩ (.int .i64 (y.qty + x.qty))).drew) w.heap.size (.slice (some ⟨g, 0, none⟩) acc.length cc2) (addLn acc x) := O5.out
          have D6 : ((w3.setCell ⟨g, n * 3 + 1, none⟩ (.int .i64 (y.qty + x.qty))).drew).cell? ⟨wr.heap.size, 2, none⟩ = some (.int .i64 x.wt) := by
            show (w3.setCell ⟨g, n * 3 + 1, none⟩ (.int .i64 (y.qty + x.qty))).cell? ⟨wr.heap.size, 2, none⟩ = some (.int .i64 x.wt)
            rw [World.cell?_setCell_other _ _ _ _ (by intro h; injection h with h; exact hgx h)]
            exact E4.out.2
          have D7 : ((w3.setCell ⟨g, n * 3 + 1, none⟩ (.int .i64 (y.qty + x.qty))).drew).cell? ⟨g, n * 3 + 2, none⟩ = some (.int .i64 y.wt) := by
            show (w3.setCell ⟨g, n * 3 + 1, none⟩ (.int .i64 (y.qty + x.qty))).cell? ⟨g, n * 3 + 2, none⟩ = some (.int .i64 y.wt)
            rw [World.cell?_setCell_other _ _ _ _ (by intro h; injection h with h1 h2; omega)]
            exact q3
          have b6 : Below w.heap.size w ((w3.setCell ⟨g, n * 3 + 1, none⟩ (.int .i64 (y.qty + x.qty))).drew) := (b4.setCell hg1 _).drew
          have P6 := Lib.hid (And.intro O6 (And.intro D6 (And.intro D7 b6)))
          clear O6 D6 D7 b6 O5 O4
          go_region
          clear q1 q2 q3 f1 e3 e4
          go_wp2_with fail
          generalize (w3.setCell ⟨g, n * 3 + 1, none⟩ (.int .i64 (y.qty + x.qty))).drew = w6 at *
          have r2 := P6.out.2.1
          have r3 := P6.out.2.2.1
          have b6 := P6.out.2.2.2
          by_cases hyx : y.wt = x.wt
          · have HNB := Lib.hid (show wBad acc x = false by rw [← HW.out]; simp [hyx])
            have hne : (y.wt != x.wt) = false := by simp [hyx]
            have HYX := Lib.hid hyx
            clear hyx
            cases h8 : decide (8 < (acc.length : Int)) with
            | true =>
              have E := Lib.hid (show mergeG [] l = none by
                rw [HS.out, HD.out, mergeG, if_neg (by rw [HX.out]; simp), if_neg (by rw [HNB.out]; simp), if_pos (by rw [← HLn.out]; simp at h8; omega)])
              have E1 := Lib.hid (show mergeV l = [] by unfold mergeV; rw [E.out]; rfl)
              have E2 := Lib.hid (show mergeE l = 41 by unfold mergeE; rw [E1.out]; rfl)
              go_quiet (fail)
              go_wp2_with fail
              go_ret2
              exact ⟨none, 0, by rw [E1.out, E2.out]; rfl, by rw [E1.out]; exact LnsP.nil _ _ _, below_drewN b6 _⟩
            | false =>
              have HN := Lib.hid (show mergeG [] l = mergeG (addLn acc x) (l.drop (k + 1)) by
                rw [HS.out, HD.out, mergeG, if_neg (by rw [HX.out]; simp), if_neg (by rw [HNB.out]; simp), if_neg (by rw [← HLn.out]; simp at h8; omega)])
              have h8' : (addLn acc x).length ≤ 8 := by rw [← HLn.out]; simp at h8; omega
              have HQ2 := Lib.hid (show ∀ y ∈ addLn acc x, 0 ≤ y.qty ∧ y.qty ≤ 1000 * ((k + 1 : Nat) : Int) by
                intro y hy
                have := addLn_bound acc x (1000 * (k : Int)) (by omega) (by omega) (by omega) HQ.out y hy
                omega)
              have HZ2 := Lib.hid (addLn_size HZ.out hsz)
              have HS2 := Lib.hid (addLn_sorted acc x HSo.out)
              go_quiet (fail)
              go_wp2_with fail
              go_roundw
              case rel => exact ⟨k + 1, addLn acc x, by omega, by go_num, Lib.hid (P6.out.1.below (below_drewN (Below.refl _ _) _)), HN, HS2, HQ2, HZ2, h8', below_drewN b6 _⟩
              case measure => simp [intOf]; omega
          · have HB := Lib.hid (show wBad acc x = true by rw [← HW.out]; simp [hyx])
            have E := Lib.hid (show mergeG [] l = none by
              rw [HS.out, HD.out, mergeG, if_neg (by rw [HX.out]; simp), if_pos HB.out])
            have E1 := Lib.hid (show mergeV l = [] by unfold mergeV; rw [E.out]; rfl)
            have E2 := Lib.hid (show mergeE l = 41 by unfold mergeE; rw [E1.out]; rfl)
            have hne : (y.wt != x.wt) = true := by simp [hyx]
            go_quiet (fail)
            go_wp2_with fail
            go_ret2
            exact ⟨none, 0, by rw [E1.out, E2.out]; rfl, by rw [E1.out]; exact LnsP.nil _ _ _, below_drewN b6 _⟩
        | false =>
          have A := AI.out ht
          clear AT AI ht C2 b1 b3 b2
          generalize posK acc x.sku = n at *
          have CI := Lib.hid (insert_any w.heap.size a2 cc2 acc n { x with qty := 0 } w3 O3.out b4.size hpl (by omega))
          have d0 := D3.out.1
          have d2 := D3.out.2.2
          go_wp2_with fail
          refine CI.out.mono ?_
          rintro e w4 ⟨v4, rfl, o4, gr, hgk⟩
          have O4 := Lib.hid o4
          have b5 := Below.grown (b4.alloc b4.size (.cells #[.string x.sku, .int .i64 0, .int .i64 x.wt] 27)) gr (by have := b4.size; simp; omega) (fun g hg => (World.ownsRow.lt O3.out g hg).1)
          have E4 := Lib.hid (show w4.cell? ⟨wr.heap.size, 1, none⟩ = some (.int .i64 x.qty) ∧ w4.cell? ⟨wr.heap.size, 2, none⟩ = some (.int .i64 x.wt) by
            have hne : some wr.heap.size ≠ (Value.slice a2 acc.length cc2).ownBlock := fun h => by have := hown.out _ h.symm; omega
            exact ⟨gr.cell (Lib.cell?_alloc_some _ D3.out.2.1) hne, gr.cell (Lib.cell?_alloc_some _ D3.out.2.2) hne⟩)
          have GX := Lib.hid (show ∀ g, v4.ownBlock = some g → g ≠ wr.heap.size from fun g hg => by
            rcases hgk g hg with h | h
            · have := hown.out g h; omega
            · simp at h; omega)
          clear o4 gr hgk d0 d2 b4
          have b4 := b5
          clear b5
          generalize putAt acc n { x with qty := 0 } = acc1 at *
          go_wp2_with fail
          obtain ⟨g, c4, ev, hg1, hg2, hg3, hg4, q1, q2, q3, hfz⟩ := O4.out.at n A.lt
          first | subst ev | (injection ev with ea _ ec; subst ea; subst ec)
          have hgx : g ≠ wr.heap.size := GX.out g rfl
          have QB := Lib.hid (A.bnd HQ.out)
          have O5 := Lib.hid (O4.out.set n A.lt ((acc1[n]'A.lt).qty + x.qty))
          have f1 : w4.frozen? ⟨g, n * 3 + 1, none⟩ = false := hfz _
          have hq0 := (QB.out).1
          have hq1 := (QB.out).2
          have e3 := E4.out.1
          have e4 := E4.out.2
          have HA := Lib.hid A.eq
          have HW := Lib.hid A.bad
          have hal := A.lt
          have HLn := Lib.hid A.len
          have hq0' : 0 ≤ (acc1[n]'A.lt).qty := hq0
          have hq1' : (acc1[n]'A.lt).qty ≤ 1000000 := by omega
          rw [HA.out] at O5
          generalize (acc1[n]'A.lt) = y at *
          unfold maxLen at hg4
          clear hq0 hq1 hfz GX
          have O6 : OwnL ((w4.setCell ⟨g, n * 3 + 1, none⟩ (.int .i64 (y.qty + x.qty))).drew) w.heap.size (.slice (some ⟨g, 0, none⟩) acc1.length c4) (addLn acc x) := O5.out
          have D6 : ((w4.setCell ⟨g, n * 3 + 1, none⟩ (.int .i64 (y.qty + x.qty))).drew).cell? ⟨wr.heap.size, 2, none⟩ = some (.int .i64 x.wt) := by
            show (w4.setCell ⟨g, n * 3 + 1, none⟩ (.int .i64 (y.qty + x.qty))).cell? ⟨wr.heap.size, 2, none⟩ = some (.int .i64 x.wt)
            rw [World.cell?_setCell_other _ _ _ _ (by intro h; injection h with h; exact hgx h)]
            exact E4.out.2
          have D7 : ((w4.setCell ⟨g, n * 3 + 1, none⟩ (.int .i64 (y.qty + x.qty))).drew).cell? ⟨g, n * 3 + 2, none⟩ = some (.int .i64 y.wt) := by
            show (w4.setCell ⟨g, n * 3 + 1, none⟩ (.int .i64 (y.qty + x.qty))).cell? ⟨g, n * 3 + 2, none⟩ = some (.int .i64 y.wt)
            rw [World.cell?_setCell_other _ _ _ _ (by intro h; injection h with h1 h2; omega)]
            exact q3
          have b6 : Below w.heap.size w ((w4.setCell ⟨g, n * 3 + 1, none⟩ (.int .i64 (y.qty + x.qty))).drew) := (b4.setCell hg1 _).drew
          have P6 := Lib.hid (And.intro O6 (And.intro D6 (And.intro D7 b6)))
          clear O6 D6 D7 b6 O5 O4
          go_region
          clear q1 q2 q3 f1 e3 e4
          go_wp2_with fail
          generalize (w4.setCell ⟨g, n * 3 + 1, none⟩ (.int .i64 (y.qty + x.qty))).drew = w6 at *
          have r2 := P6.out.2.1
          have r3 := P6.out.2.2.1
          have b6 := P6.out.2.2.2
          by_cases hyx : y.wt = x.wt
          · have HNB := Lib.hid (show wBad acc x = false by rw [← HW.out]; simp [hyx])
            have hne : (y.wt != x.wt) = false := by simp [hyx]
            have HYX := Lib.hid hyx
            clear hyx
            cases h8 : decide (8 < (acc1.length : Int)) with
            | true =>
              have E := Lib.hid (show mergeG [] l = none by
                rw [HS.out, HD.out, mergeG, if_neg (by rw [HX.out]; simp), if_neg (by rw [HNB.out]; simp), if_pos (by rw [← HLn.out]; simp at h8; omega)])
              have E1 := Lib.hid (show mergeV l = [] by unfold mergeV; rw [E.out]; rfl)
              have E2 := Lib.hid (show mergeE l = 41 by unfold mergeE; rw [E1.out]; rfl)
              go_quiet (fail)
              go_wp2_with fail
              go_ret2
              exact ⟨none, 0, by rw [E1.out, E2.out]; rfl, by rw [E1.out]; exact LnsP.nil _ _ _, below_drewN b6 _⟩
            | false =>
              have HN := Lib.hid (show mergeG [] l = mergeG (addLn acc x) (l.drop (k + 1)) by
                rw [HS.out, HD.out, mergeG, if_neg (by rw [HX.out]; simp), if_neg (by rw [HNB.out]; simp), if_neg (by rw [← HLn.out]; simp at h8; omega)])
              have h8' : (addLn acc x).length ≤ 8 := by rw [← HLn.out]; simp at h8; omega
              have HQ2 := Lib.hid (show ∀ y ∈ addLn acc x, 0 ≤ y.qty ∧ y.qty ≤ 1000 * ((k + 1 : Nat) : Int) by
                intro y hy
                have := addLn_bound acc x (1000 * (k : Int)) (by omega) (by omega) (by omega) HQ.out y hy
                omega)
              have HZ2 := Lib.hid (addLn_size HZ.out hsz)
              have HS2 := Lib.hid (addLn_sorted acc x HSo.out)
              go_quiet (fail)
              go_wp2_with fail
              go_roundw
              case rel => exact ⟨k + 1, addLn acc x, by omega, by go_num, Lib.hid (P6.out.1.below (below_drewN (Below.refl _ _) _)), HN, HS2, HQ2, HZ2, h8', below_drewN b6 _⟩
              case measure => simp [intOf]; omega
          · have HB := Lib.hid (show wBad acc x = true by rw [← HW.out]; simp [hyx])
            have E := Lib.hid (show mergeG [] l = none by
              rw [HS.out, HD.out, mergeG, if_neg (by rw [HX.out]; simp), if_pos HB.out])
            have E1 := Lib.hid (show mergeV l = [] by unfold mergeV; rw [E.out]; rfl)
            have E2 := Lib.hid (show mergeE l = 41 by unfold mergeE; rw [E1.out]; rfl)
            have hne : (y.wt != x.wt) = true := by simp [hyx]
            go_quiet (fail)
            go_wp2_with fail
            go_ret2
            exact ⟨none, 0, by rw [E1.out, E2.out]; rfl, by rw [E1.out]; exact LnsP.nil _ _ _, below_drewN b6 _⟩
    · have E := Lib.hid (show mergeG [] l = if rightLB acc then some acc else none by rw [HS.out, List.drop_eq_nil_of_le (by omega), mergeG])
      obtain ⟨a2, cc2, e2, i2⟩ := HO.out.lns HZ.out
      subst e2
      have I2 := Lib.hid i2
      have C := Lib.hid (right14_any a2 cc2 acc wr i2 (by unfold maxLen; omega))
      clear i2
      cases hr : rightLB acc with
      | false =>
        rw [hr] at C
        have E1 := Lib.hid (show mergeV l = [] by unfold mergeV; rw [E.out, hr]; rfl)
        have E2 := Lib.hid (show mergeE l = 41 by unfold mergeE; rw [E1.out]; rfl)
        clear hr
        go_wp2_with fail
        refine C.out.mono ?_
        rintro e w1 ⟨rfl, b1⟩
        have b2 := hbw.trans (b1.mono hbw.size)
        go_wp2_with fail
        go_ret2
        exact ⟨none, 0, by rw [E1.out, E2.out]; rfl, by rw [E1.out]; exact LnsP.nil _ _ _, b2⟩
      | true =>
        rw [hr] at C
        have E1 := Lib.hid (show mergeV l = acc by unfold mergeV; rw [E.out, hr]; rfl)
        have E2 := Lib.hid (show mergeE l = 0 by
          unfold mergeE
          rw [E1.out]
          have := ((rightLB_iff _).1 hr).1.1
          cases acc with
          | nil => simp at this
          | cons => rfl)
        clear hr
        go_wp2_with fail
        refine C.out.mono ?_
        rintro e w1 ⟨rfl, b1⟩
        have b2 := hbw.trans (b1.mono hbw.size)
        go_wp2_with fail
        go_ret2
        exact ⟨a2, cc2, by rw [E1.out, E2.out]; rfl, by rw [E1.out]; exact I2.out.below b1, b2⟩

end Go.Proofs.Ytijcgioggmphkaa
