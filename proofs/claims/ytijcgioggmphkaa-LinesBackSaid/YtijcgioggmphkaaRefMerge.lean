/- The document's own words on lines: what Merge of package packhorseref04 answers, at every slice of lines. -/
import Derived.Test.YtijcgioggmphkaaRefTake
import Derived.Test.YtijcgioggmphkaaPlain4
namespace Go.Proofs.Ytijcgioggmphkaa
open Go.RowKit

theorem right_one (x : Ln) : rightLB [x] = lineB x := by simp [rightLB, goodFrom, behindB]
theorem news1 (w : World) (v0 v1 v2 : Value) : ∀ j u, [v0, v1, v2][j]? = some u → (w.alloc (.cells #[v0, v1, v2] 27)).cell? ((⟨w.heap.size, 0, none⟩ : Addr).add j) = some u := by
  intro j u hj
  rw [Addr.add_lit, Nat.zero_add]
  match j, hj with
  | 0, hj => simp at hj; subst hj; simp
  | 1, hj => simp at hj; subst hj; simp
  | 2, hj => simp at hj; subst hj; simp
  | _ + 3, hj => simp at hj
theorem own_len {w : World} {base : Nat} {v : Value} {m n : Nat} {xs : List Value} (h : m = n) (ho : w.ownsRow base 27 3 v m xs) : w.ownsRow base 27 3 v n xs := h ▸ ho

/-- A line in a block of the call's own. -/
structure SumAt (w : World) (B : Nat) (k : ByteArray) (q t : Int) : Prop where
  c0 : w.cell? ⟨B, 0, none⟩ = some (.string k)
  c1 : w.cell? ⟨B, 1, none⟩ = some (.int .i64 q)
  c2 : w.cell? ⟨B, 2, none⟩ = some (.int .i64 t)
  f1 : w.frozen? ⟨B, 1, none⟩ = false
  f2 : w.frozen? ⟨B, 2, none⟩ = false
  lt : B < w.heap.size
theorem SumAt.alloc {w : World} {B : Nat} {k : ByteArray} {q t : Int} (h : SumAt w B k q t) (o : Obj) : SumAt (w.alloc o) B k q t := by
  have hb : Below w.heap.size w (w.alloc o) := (Below.refl _ _).alloc (Nat.le_refl _) _
  exact ⟨(hb.cell (p := ⟨B, 0, none⟩) h.lt).trans h.c0, (hb.cell (p := ⟨B, 1, none⟩) h.lt).trans h.c1, (hb.cell (p := ⟨B, 2, none⟩) h.lt).trans h.c2, (hb.frozen (p := ⟨B, 1, none⟩) h.lt).trans h.f1, (hb.frozen (p := ⟨B, 2, none⟩) h.lt).trans h.f2, Nat.lt_of_lt_of_le h.lt hb.size⟩
theorem SumAt.set {w : World} {B : Nat} {k : ByteArray} {q t : Int} (h : SumAt w B k q t) (q' t' : Int) : SumAt ((w.setCell ⟨B, 2, none⟩ (.int .i64 t')).setCell ⟨B, 1, none⟩ (.int .i64 q')) B k q' t' := by
  have e1 : (w.setCell ⟨B, 2, none⟩ (.int .i64 t')).cell? ⟨B, 1, none⟩ = some (.int .i64 q) := by
    rw [World.cell?_setCell_other _ _ _ _ (by intro h; injection h with h1 h2; omega)]; exact h.c1
  refine ⟨?_, World.cell?_setCell_same _ _ _ e1, ?_, ?_, ?_, ?_⟩
  · rw [World.cell?_setCell_other _ _ _ _ (by intro h; injection h with h1 h2; omega), World.cell?_setCell_other _ _ _ _ (by intro h; injection h with h1 h2; omega)]; exact h.c0
  · rw [World.cell?_setCell_other _ _ _ _ (by intro h; injection h with h1 h2; omega)]
    exact World.cell?_setCell_same _ _ _ h.c2
  · rw [World.frozen?_setCell, World.frozen?_setCell]; exact h.f1
  · rw [World.frozen?_setCell, World.frozen?_setCell]; exact h.f2
  · simpa [World.setCell] using h.lt

def slLen : Value → Nat
  | .slice _ n _ => n
  | _ => 0
theorem mergeV_bad {l : List Ln} {x : Ln} (hx : x ∈ l) (h : lineB x = false) : mergeV l = [] := by
  unfold mergeV
  rw [mergeG_eq, if_neg]
  · rfl
  · rintro ⟨h1, _⟩
    rw [h1 x hx] at h
    cases h
theorem lastAt_size {M : List Ln} (h : ∀ x ∈ M, x.sku.size ≤ maxLen) : ∀ k, (lastAt M k).size ≤ maxLen
  | 0 => by show 0 ≤ maxLen; omega
  | j + 1 => by
    simp only [lastAt]
    cases e : M[j]? with
    | none => show 0 ≤ maxLen; omega
    | some x => exact h x (List.mem_of_getElem? e)
theorem least_size {l : List Ln} {last : ByteArray} (h : ∀ x ∈ l, x.sku.size ≤ maxLen) {acc : ByteArray} (ha : acc.size ≤ maxLen) {x : Ln} (hx : x ∈ l) : (leastS last acc x).size ≤ maxLen := by
  unfold leastS
  split
  · exact h x hx
  · exact ha

set_option maxHeartbeats 8000000 in
set_option maxRecDepth 100000 in
theorem refMerge_any (a : Option Addr) (cap : Nat) (l : List Ln) (w : World) (h : LnsP w a cap l) (hm : l.length ≤ 1000) :
    Calls Try.prog 19 #[.slice a l.length cap] w (Merged l w) := by
  obtain ⟨i0, hi0, hz0, hzs, hzb⟩ := info_parts Try.info27
  have HI := Lib.hid (And.intro hi0 (And.intro hz0 (And.intro hzs hzb)))
  have H := Lib.hid h
  clear h hi0 hz0 hzs hzb
  go_enter Try.func19, Try.ntmps19
  go_wp2_with fail
  go_loopw [16] (fun i wr => ∃ (k : Nat), k ≤ l.length ∧ i = .int .i64 k ∧ Hid (∀ x ∈ l.take k, lineB x = true) ∧ Below w.heap.size w wr) (fun i _ => l.length - (intOf i).toNat)
  case atStart => exact ⟨0, Nat.zero_le _, rfl, Lib.hid (by simp), Below.refl _ _⟩
  case round =>
    obtain ⟨k, hk, rfl, HL, hbw⟩ := hrel
    by_cases hlt : k < l.length
    · obtain ⟨b, o, ea, hb, c1, c2, c3, hsz⟩ := (H.out.below hbw).at k hlt
      subst ea
      have p1 := H.out.cap
      have HT := Lib.hid (List.take_succ_eq_append_getElem hlt)
      have HMEM := Lib.hid (List.getElem_mem hlt)
      have hbw1 := hbw.alloc hbw.size (Obj.cells #[Value.string l[k].sku, Value.int IntKind.i64 l[k].qty, Value.int IntKind.i64 l[k].wt] 27)
      have hbw2 := hbw1.alloc hbw1.size (Obj.cells #[Value.string l[k].sku, Value.int IntKind.i64 l[k].qty, Value.int IntKind.i64 l[k].wt] 27)
      have I1 : LnsP ((wr.alloc (Obj.cells #[Value.string l[k].sku, Value.int IntKind.i64 l[k].qty, Value.int IntKind.i64 l[k].wt] 27)).alloc (Obj.cells #[Value.string l[k].sku, Value.int IntKind.i64 l[k].qty, Value.int IntKind.i64 l[k].wt] 27)) (some ⟨wr.heap.size + 1, 0, none⟩) 1 [l[k]] := by
        refine ⟨by simp, by intro x hx; simp at hx; subst hx; exact hsz, fun _ => ⟨_, 0, rfl, by simp, fun j x hx => ?_⟩⟩
        have hn := news3 wr (Obj.cells #[Value.string l[k].sku, Value.int IntKind.i64 l[k].qty, Value.int IntKind.i64 l[k].wt] 27) (.string l[k].sku) (.int .i64 l[k].qty) (.int .i64 l[k].wt)
        match j, hx with
        | 0, hx =>
          simp at hx
          subst hx
          have n0 := hn 0 _ rfl
          have n1 := hn 1 _ rfl
          have n2 := hn 2 _ rfl
          rw [Addr.add_lit] at n0 n1 n2
          exact ⟨n0, n1, n2⟩
        | _ + 1, hx => simp at hx
      have C := Lib.hid (refRight15_any _ 1 [l[k]] _ I1 (by unfold maxLen; simp))
      rw [right_one] at C
      clear I1 hsz
      generalize l[k] = x at *
      cases hlb : lineB x with
      | false =>
        rw [hlb] at C
        have E1 := Lib.hid (mergeV_bad HMEM.out hlb)
        have E2 := Lib.hid (show mergeE l = 41 by unfold mergeE; rw [E1.out]; rfl)
        clear hlb
        go_wp2_with fail
        refine C.out.mono ?_
        rintro e w1 ⟨rfl, b1⟩
        have b2 := hbw2.trans (b1.mono hbw2.size)
        go_wp2_with fail
        go_ret2
        exact ⟨none, 0, by rw [E1.out, E2.out]; rfl, by rw [E1.out]; exact LnsP.nil _ _ _, b2⟩
      | true =>
        rw [hlb] at C
        have HL2 := Lib.hid (show ∀ x ∈ l.take (k + 1), lineB x = true by
          intro y hy
          rw [HT.out, List.mem_append, List.mem_singleton] at hy
          rcases hy with hy | rfl
          · exact HL.out y hy
          · exact hlb)
        clear hlb
        go_wp2_with fail
        refine C.out.mono ?_
        rintro e w1 ⟨rfl, b1⟩
        have b2 := hbw2.trans (b1.mono hbw2.size)
        go_wp2_with fail
        go_roundw
        case rel => exact ⟨k + 1, by omega, by go_num, HL2, b2⟩
        case measure => simp [intOf]; omega
    · have HA := Lib.hid (show ∀ x ∈ l, lineB x = true by have := HL.out; rwa [List.take_of_length_le (by omega)] at this)
      obtain ⟨M, hM⟩ : ∃ M, Lined l M := ⟨_, lined HA.out⟩
      have HM := Lib.hid hM
      have HSM := Lib.hid (show ∀ x ∈ M, x.sku.size ≤ maxLen by
        intro y hy
        obtain ⟨x, hx, e⟩ := (hM.keys y.sku).1 ⟨y, hy, rfl⟩
        rw [← e]
        exact H.out.size x hx)
      have HSZ := Lib.hid (show ∀ k, ∀ x ∈ M.take k, x.sku.size ≤ maxLen from fun k x hx => HSM.out x (List.mem_of_mem_take hx))
      clear hM
      have b2 := hbw.alloc hbw.size (.cells #[] 27)
      have O0 := Lib.hid (show OwnL (wr.alloc (.cells #[] 27)) w.heap.size (.slice (some ⟨wr.heap.size, 0, none⟩) 0 0) [] from World.ownsRow_made wr #[] 0 hbw.size (by unfold maxLen; omega) rfl)
      go_wp2_with fail
      generalize wr.alloc (.cells #[] 27) = W0 at *
      go_loopw [6, 7] (fun s lt wr => ∃ (k : Nat), k ≤ 9 ∧ k ≤ M.length ∧ lt = .string (lastAt M k) ∧ Hid (OwnL wr w.heap.size s (M.take k)) ∧ Hid (Cons l M k) ∧ Below w.heap.size w wr) (fun s _ _ => 9 - slLen s)
      case atStart => exact ⟨0, by omega, by omega, rfl, O0, Lib.hid (fun i _ h => absurd h (Nat.not_lt_zero _)), b2⟩
      case round =>
        clear O0 b2 hbw hk hlt
        obtain ⟨n, hk9, hkM, rfl, HO, HC, hbw⟩ := hrel
        generalize wr = wo at *
        have hlen : (M.take n).length = n := by rw [List.length_take]; omega
        have HLEN := Lib.hid hlen
        obtain ⟨a3, cc3, e3⟩ := HO.out.slice
        subst e3
        rw [hlen] at HO ⊢
        clear hlen
        by_cases h9 : n < 9
        · have hd9 : decide ((n : Int) < 9) = true := by simp; omega
          have HLZ := Lib.hid (lastAt_size HSM.out n)
          go_wp2_with fail
          go_loopw [8, 31] (fun ls i wi => ∃ (j : Nat) (acc : ByteArray), j ≤ l.length ∧ i = .int .i64 j ∧ ls = .string acc ∧ Hid (leastF (lastAt M n) noK l = leastF (lastAt M n) acc (l.drop j)) ∧ Hid (acc.size ≤ maxLen) ∧ Hid (Below wo.heap.size wo wi)) (fun _ i _ => l.length - (intOf i).toNat)
          case atStart => exact ⟨0, noK, Nat.zero_le _, rfl, rfl, Lib.hid rfl, Lib.hid (by show 0 ≤ maxLen; omega), Lib.hid (Below.refl _ _)⟩
          case round =>
            obtain ⟨j, acc, hj, rfl, rfl, HLS, HAS, HB⟩ := hrel
            generalize wr = wi at *
            have hbi := hbw.trans (HB.out.mono hbw.size)
            by_cases hlt : j < l.length
            · obtain ⟨b, o, ea, hb, c1, c2, c3, hsz⟩ := (H.out.below hbi).at j hlt
              subst ea
              have p1 := H.out.cap
              have HD := Lib.hid (List.drop_eq_getElem_cons hlt)
              have HMEM := Lib.hid (List.getElem_mem hlt)
              have HST := Lib.hid (show leastF (lastAt M n) acc (l.drop j) = leastF (lastAt M n) (leastS (lastAt M n) acc l[j]) (l.drop (j + 1)) by rw [HD.out, leastF_cons])
              have HSS := Lib.hid (least_size (last := lastAt M n) H.out.size HAS.out HMEM.out)
              have C1 := Lib.hid (fun w => refCmp_any l[j].sku (lastAt M n) w hsz HLZ.out)
              have C2 := Lib.hid (fun w => refCmp_any l[j].sku acc w hsz HAS.out)
              have HLE := Lib.hid (show leastS (lastAt M n) acc l[j] = if 0 < kcmp l[j].sku (lastAt M n) ∧ (acc = noK ∨ kcmp l[j].sku acc < 0) then l[j].sku else acc from rfl)
              clear hsz
              generalize leastS (lastAt M n) acc l[j] = acc2 at *
              generalize l[j] = x at *
              generalize kcmp x.sku (lastAt M n) = k1 at *
              generalize kcmp x.sku acc = k3 at *
              have hbi1 := HB.out.alloc HB.out.size (Obj.cells #[Value.string x.sku, Value.int IntKind.i64 x.qty, Value.int IntKind.i64 x.wt] 27)
              have d0 : (wi.alloc (Obj.cells #[Value.string x.sku, Value.int IntKind.i64 x.qty, Value.int IntKind.i64 x.wt] 27)).cell? ⟨wi.heap.size, 0, none⟩ = some (.string x.sku) := by simp
              have hz : wi.heap.size < (wi.alloc (Obj.cells #[Value.string x.sku, Value.int IntKind.i64 x.qty, Value.int IntKind.i64 x.wt] 27)).heap.size := by simp
              have D := Lib.hid (And.intro d0 hz)
              clear d0 hz
              by_cases h1 : 0 < k1
              · by_cases h2 : acc = noK
                · have HE := Lib.hid (show acc2 = x.sku by rw [HLE.out, if_pos ⟨h1, Or.inl h2⟩])
                  have h2' : acc = ⟨#[]⟩ := h2
                  subst h2'
                  clear h2
                  go_wp2_with fail
                  generalize wi.alloc (Obj.cells #[Value.string x.sku, Value.int IntKind.i64 x.qty, Value.int IntKind.i64 x.wt] 27) = W1 at *
                  refine (C1.out _).mono ?_
                  rintro e w1 ⟨rfl, b1⟩
                  have b3 := hbi1.trans (b1.mono hbi1.size)
                  have e0 := (b1.cell (p := ⟨wi.heap.size, 0, none⟩) D.out.2).trans D.out.1
                  go_wp2_with fail
                  go_roundw
                  case rel => exact ⟨j + 1, acc2, by omega, by go_num, by rw [HE.out], Lib.hid (HLS.out.trans HST.out), HSS, Lib.hid b3⟩
                  case measure => simp [intOf]; omega
                · have hne1 : ¬ acc.toList = [] := fun h => h2 (by
                    rw [ByteArray.toList_eq] at h
                    cases acc with
                    | mk d =>
                      simp only at h
                      rw [Array.toList_eq_nil_iff] at h
                      rw [h]; rfl)
                  have hne2 : (acc.toList == []) = false := by simp [hne1]
                  have hne3 : acc.toList.isEmpty = false := by simp [hne1]
                  by_cases h3 : k3 < 0
                  · have HE := Lib.hid (show acc2 = x.sku by rw [HLE.out, if_pos ⟨h1, Or.inr h3⟩])
                    clear h2
                    go_wp2_with fail
                    generalize wi.alloc (Obj.cells #[Value.string x.sku, Value.int IntKind.i64 x.qty, Value.int IntKind.i64 x.wt] 27) = W1 at *
                    refine (C1.out _).mono ?_
                    rintro e w1 ⟨rfl, b1⟩
                    have b3 := hbi1.trans (b1.mono hbi1.size)
                    have e0 := (b1.cell (p := ⟨wi.heap.size, 0, none⟩) D.out.2).trans D.out.1
                    have E0 := Lib.hid e0
                    have z1 := Nat.lt_of_lt_of_le D.out.2 b1.size
                    go_wp2_with fail
                    refine (C2.out _).mono ?_
                    rintro e w2 ⟨rfl, b4⟩
                    clear e0
                    have b5 := b3.trans (b4.mono b3.size)
                    have e0 := (b4.cell (p := ⟨wi.heap.size, 0, none⟩) z1).trans E0.out
                    go_wp2_with fail
                    go_roundw
                    case rel => exact ⟨j + 1, acc2, by omega, by go_num, by rw [HE.out], Lib.hid (HLS.out.trans HST.out), HSS, Lib.hid b5⟩
                    case measure => simp [intOf]; omega
                  · have HE := Lib.hid (show acc2 = acc by rw [HLE.out, if_neg (by rintro ⟨_, h | h⟩; exact h2 h; exact h3 h)])
                    clear h2
                    go_wp2_with fail
                    generalize wi.alloc (Obj.cells #[Value.string x.sku, Value.int IntKind.i64 x.qty, Value.int IntKind.i64 x.wt] 27) = W1 at *
                    refine (C1.out _).mono ?_
                    rintro e w1 ⟨rfl, b1⟩
                    have b3 := hbi1.trans (b1.mono hbi1.size)
                    have e0 := (b1.cell (p := ⟨wi.heap.size, 0, none⟩) D.out.2).trans D.out.1
                    go_wp2_with fail
                    refine (C2.out _).mono ?_
                    rintro e w2 ⟨rfl, b4⟩
                    clear e0
                    have b5 := b3.trans (b4.mono b3.size)
                    go_wp2_with fail
                    go_roundw
                    case rel => exact ⟨j + 1, acc2, by omega, by go_num, by rw [HE.out], Lib.hid (HLS.out.trans HST.out), HSS, Lib.hid b5⟩
                    case measure => simp [intOf]; omega
              · have HE := Lib.hid (show acc2 = acc by rw [HLE.out, if_neg (fun h => h1 h.1)])
                go_wp2_with fail
                generalize wi.alloc (Obj.cells #[Value.string x.sku, Value.int IntKind.i64 x.qty, Value.int IntKind.i64 x.wt] 27) = W1 at *
                refine (C1.out _).mono ?_
                rintro e w1 ⟨rfl, b1⟩
                have b3 := hbi1.trans (b1.mono hbi1.size)
                go_wp2_with fail
                go_roundw
                case rel => exact ⟨j + 1, acc2, by omega, by go_num, by rw [HE.out], Lib.hid (HLS.out.trans HST.out), HSS, Lib.hid b3⟩
                case measure => simp [intOf]; omega
            · have hacc := HLS.out
              rw [List.drop_eq_nil_of_le (by omega), leastF_nil, least_at HM.out.sorted HM.out.keys HM.out.ne hkM] at hacc
              have HACC := Lib.hid hacc
              clear hacc
              have HOi := Lib.hid (HO.out.below HB.out)
              by_cases hMk : n < M.length
              · have hac : acc = M[n].sku := by rw [← HACC.out, List.getElem?_eq_getElem hMk]; rfl
                have hne : acc ≠ noK := by
                  obtain ⟨x, hx, e⟩ := (HM.out.keys M[n].sku).1 ⟨_, List.getElem_mem hMk, rfl⟩
                  rw [hac, ← e]
                  exact HM.out.ne x hx
                have hne1 : ¬ acc.toList = [] := fun h => hne (by
                  rw [ByteArray.toList_eq] at h
                  cases acc with
                  | mk d =>
                    simp only at h
                    rw [Array.toList_eq_nil_iff] at h
                    rw [h]; rfl)
                have hne2 : (acc.toList == []) = false := by simp [hne1]
                have hne3 : acc.toList.isEmpty = false := by simp [hne1]
                have HAC := Lib.hid hac
                have HSUM := Lib.hid (fun q t (h : sumG acc 0 (-1) l = some (q, t)) => sum_line HM.out hMk (by rw [← hac]; exact h) HC.out)
                have HSN := Lib.hid (fun (h : sumG acc 0 (-1) l = none) => sum_none HM.out h)
                have HTN := Lib.hid (show M.take (n + 1) = M.take n ++ [M[n]] from List.take_succ_eq_append_getElem hMk)
                have HLA := Lib.hid (show lastAt M (n + 1) = acc by rw [lastAt_succ hMk, hac])
                have hbz := hbi.alloc hbi.size (Obj.cells #[Value.string acc, Value.int IntKind.i64 0, Value.int IntKind.i64 (-1)] 27)
                have S0 := Lib.hid (show SumAt (wi.alloc (Obj.cells #[Value.string acc, Value.int IntKind.i64 0, Value.int IntKind.i64 (-1)] 27)) wi.heap.size acc 0 (-1) from ⟨by simp, by simp, by simp, by simp, by simp, by simp⟩)
                have B0 := Lib.hid (show Below wi.heap.size wi (wi.alloc (Obj.cells #[Value.string acc, Value.int IntKind.i64 0, Value.int IntKind.i64 (-1)] 27)) from (Below.refl _ _).alloc (Nat.le_refl _) _)
                clear hac hne HACC
                go_wp2_with fail
                generalize wi.alloc (Obj.cells #[Value.string acc, Value.int IntKind.i64 0, Value.int IntKind.i64 (-1)] 27) = WZ at *
                go_loopw [60] (fun i wj => ∃ (j : Nat) (q t : Int), j ≤ l.length ∧ i = .int .i64 j ∧ Hid (SumAt wj wi.heap.size acc q t) ∧ Hid (sumG acc 0 (-1) l = sumG acc q t (l.drop j)) ∧ 0 ≤ q ∧ q ≤ 1000 * (j : Int) ∧ -1 ≤ t ∧ t ≤ 100000 ∧ Hid (Below wi.heap.size wi wj)) (fun i _ => l.length - (intOf i).toNat)
                case atStart => exact ⟨0, 0, -1, Nat.zero_le _, rfl, S0, Lib.hid rfl, by omega, by omega, by omega, by omega, B0⟩
                case round =>
                  clear S0 B0 hbz
                  obtain ⟨j2, q, t, hj2, rfl, HSU, HG, hq0, hq1, ht0, ht1, HBJ⟩ := hrel
                  have hbj := hbi.trans (HBJ.out.mono hbi.size)
                  by_cases hlt2 : j2 < l.length
                  · obtain ⟨b, o, ea, hb, c1, c2, c3, hsz⟩ := (H.out.below hbj).at j2 hlt2
                    subst ea
                    have p1 := H.out.cap
                    have HD := Lib.hid (List.drop_eq_getElem_cons hlt2)
                    obtain ⟨_, hx1, hx2, hx3, hx4⟩ := lineB_of (HM.out.line _ (List.getElem_mem hlt2))
                    clear hsz
                    generalize l[j2] = x at *
                    have hbj1 := hbj.alloc hbj.size (Obj.cells #[Value.string x.sku, Value.int IntKind.i64 x.qty, Value.int IntKind.i64 x.wt] 27)
                    have HBJ1 := Lib.hid (HBJ.out.alloc HBJ.out.size (Obj.cells #[Value.string x.sku, Value.int IntKind.i64 x.qty, Value.int IntKind.i64 x.wt] 27))
                    have SU1 := Lib.hid (HSU.out.alloc (Obj.cells #[Value.string x.sku, Value.int IntKind.i64 x.qty, Value.int IntKind.i64 x.wt] 27))
                    have d0 : (wr.alloc (Obj.cells #[Value.string x.sku, Value.int IntKind.i64 x.qty, Value.int IntKind.i64 x.wt] 27)).cell? ⟨wr.heap.size, 0, none⟩ = some (.string x.sku) := by simp
                    have d1 : (wr.alloc (Obj.cells #[Value.string x.sku, Value.int IntKind.i64 x.qty, Value.int IntKind.i64 x.wt] 27)).cell? ⟨wr.heap.size, 1, none⟩ = some (.int .i64 x.qty) := by simp
                    have d2 : (wr.alloc (Obj.cells #[Value.string x.sku, Value.int IntKind.i64 x.qty, Value.int IntKind.i64 x.wt] 27)).cell? ⟨wr.heap.size, 2, none⟩ = some (.int .i64 x.wt) := by simp
                    have hzz : wi.heap.size < wr.heap.size := HSU.out.lt
                    by_cases hsk : x.sku = acc
                    · have hs1 := str_eq hsk
                      have hs2 : (x.sku.toList != acc.toList) = false := by rw [bne, hs1]; rfl
                      have HSK := Lib.hid hsk
                      clear hsk
                      have HGX := Lib.hid (show sumG acc 0 (-1) l = if 0 ≤ t ∧ t ≠ x.wt then none else sumG acc (q + x.qty) x.wt (l.drop (j2 + 1)) by rw [HG.out, HD.out, sumG, if_pos HSK.out])
                      have g0 := SU1.out.c1
                      have g1 := SU1.out.c2
                      have g2 := SU1.out.f1
                      have g3 := SU1.out.f2
                      have D := Lib.hid (And.intro d0 (And.intro d1 d2))
                      have Z1 := Lib.hid (show (wr.alloc (Obj.cells #[Value.string x.sku, Value.int IntKind.i64 x.qty, Value.int IntKind.i64 x.wt] 27)).heap.size = wr.heap.size + 1 by simp)
                      by_cases hbad : 0 ≤ t ∧ t ≠ x.wt
                      · have hb1 := hbad.1
                        have hb2 : (t != x.wt) = true := by simpa using hbad.2
                        have E1 := Lib.hid (HSN.out (by rw [HGX.out, if_pos hbad]))
                        have E2 := Lib.hid (show mergeE l = 41 by unfold mergeE; rw [E1.out]; rfl)
                        clear hbad
                        go_wp2_with fail
                        go_ret2
                        exact ⟨none, 0, by rw [E1.out, E2.out]; rfl, by rw [E1.out]; exact LnsP.nil _ _ _, hbj1⟩
                      · have HG2 := Lib.hid (show sumG acc 0 (-1) l = sumG acc (q + x.qty) x.wt (l.drop (j2 + 1)) by rw [HGX.out, if_neg hbad])
                        have SU2 := Lib.hid ((HSU.out.set (q + x.qty) x.wt).alloc (Obj.cells #[Value.string x.sku, Value.int IntKind.i64 x.qty, Value.int IntKind.i64 x.wt] 27))
                        have HBJ2 := Lib.hid (((HBJ.out.setCell (p := ⟨wi.heap.size, 2, none⟩) (Nat.le_refl _) (.int .i64 x.wt)).setCell (p := ⟨wi.heap.size, 1, none⟩) (Nat.le_refl _) (.int .i64 (q + x.qty))).alloc (by have := HBJ.out.size; simpa [World.setCell] using this) (Obj.cells #[Value.string x.sku, Value.int IntKind.i64 x.qty, Value.int IntKind.i64 x.wt] 27))
                        have m0 : (wr.setCell ⟨wi.heap.size, 2, none⟩ (.int .i64 x.wt)).cell? ⟨wi.heap.size, 1, none⟩ = some (.int .i64 q) := by
                          rw [World.cell?_setCell_other _ _ _ _ (by intro h; injection h with h1 h2; omega)]; exact HSU.out.c1
                        have m1 : ((wr.setCell ⟨wi.heap.size, 2, none⟩ (.int .i64 x.wt)).alloc (Obj.cells #[Value.string x.sku, Value.int IntKind.i64 x.qty, Value.int IntKind.i64 x.wt] 27)).cell? ⟨wi.heap.size, 1, none⟩ = some (.int .i64 q) := Lib.cell?_alloc_some _ m0
                        have m2 : ((wr.setCell ⟨wi.heap.size, 2, none⟩ (.int .i64 x.wt)).alloc (Obj.cells #[Value.string x.sku, Value.int IntKind.i64 x.qty, Value.int IntKind.i64 x.wt] 27)).frozen? ⟨wi.heap.size, 1, none⟩ = false := by
                          have hb : Below wr.heap.size (wr.setCell ⟨wi.heap.size, 2, none⟩ (.int .i64 x.wt)) ((wr.setCell ⟨wi.heap.size, 2, none⟩ (.int .i64 x.wt)).alloc (Obj.cells #[Value.string x.sku, Value.int IntKind.i64 x.qty, Value.int IntKind.i64 x.wt] 27)) := (Below.refl _ _).alloc (by simp [World.setCell]) _
                          rw [hb.frozen (p := ⟨wi.heap.size, 1, none⟩) hzz, World.frozen?_setCell]; exact HSU.out.f1
                        by_cases ht : 0 ≤ t
                        · have hb2 : (t != x.wt) = false := by
                            by_cases h : t = x.wt
                            · simp [h]
                            · exact absurd ⟨ht, h⟩ hbad
                          clear hbad
                          go_wp2_with fail
                          go_roundw
                          case rel => exact ⟨j2 + 1, q + x.qty, x.wt, by omega, by go_num, SU2, HG2, by omega, by omega, by omega, hx4, HBJ2⟩
                          case measure => simp [intOf]; omega
                        · clear hbad
                          go_wp2_with fail
                          go_roundw
                          case rel => exact ⟨j2 + 1, q + x.qty, x.wt, by omega, by go_num, SU2, HG2, by omega, by omega, by omega, hx4, HBJ2⟩
                          case measure => simp [intOf]; omega
                    · have hs1 := str_ne hsk
                      have hs2 : (x.sku.toList != acc.toList) = true := by rw [bne, hs1]; rfl
                      have HG2 := Lib.hid (show sumG acc 0 (-1) l = sumG acc q t (l.drop (j2 + 1)) by rw [HG.out, HD.out, sumG, if_neg hsk])
                      clear hsk d1 d2
                      go_wp2_with fail
                      go_roundw
                      case rel => exact ⟨j2 + 1, q, t, by omega, by go_num, SU1, HG2, hq0, by omega, ht0, ht1, HBJ1⟩
                      case measure => simp [intOf]; omega
                  · have HE := Lib.hid (HSUM.out q t (by rw [HG.out, List.drop_eq_nil_of_le (by omega), sumG]))
                    have OJ := Lib.hid (HOi.out.below HBJ.out)
                    have g0 := HSU.out.c0
                    have g1 := HSU.out.c1
                    have g2 := HSU.out.c2
                    go_wp2_with (at_builtin; go_must (refine wpList_append_own _ rfl _ _ 22 rfl w.heap.size 27 i0 _ 3 32 Try.underlying22 HI.out.1 HI.out.2.1 HI.out.2.2.1 HI.out.2.2.2 rfl (by decide) _ _ _ rfl (own_len HLEN.out (World.ownsRow.alloc OJ.out _)) ⟨wr.heap.size, 0, none⟩ 1 1 [.string acc, .int .i64 q, .int .i64 t] rfl rfl (news1 _ _ _ _) (by simp [Value.oneCell']) (by unfold maxLen; omega) (by omega) (by have := hbj.size; simp; omega) ?_; intro v' w3 hown' hgrow3 hnil3))
                    have b4 := Below.grown (hbj.alloc hbj.size (Obj.cells #[Value.string acc, Value.int IntKind.i64 q, Value.int IntKind.i64 t] 27)) hgrow3 (by have := hbj.size; simp; omega) (fun g hg => (World.ownsRow.lt OJ.out g hg).1)
                    have O4 := Lib.hid (show OwnL w3 w.heap.size v' (M.take (n + 1)) by
                      rw [HTN.out, ← HE.out.1, ← HAC.out]
                      exact ownL_snoc (by rw [HLEN.out]; exact hown'))
                    have LN4 := Lib.hid (O4.out.slice)
                    have HC2 := Lib.hid HE.out.2
                    clear hown' hgrow3 hnil3 g0 g1 g2
                    obtain ⟨a4, cc4, e4⟩ := LN4.out
                    subst e4
                    have h5 : (M.take (n + 1)).length = n + 1 := by rw [List.length_take]; omega
                    have H5 := Lib.hid h5
                    clear h5
                    go_wp2_with fail
                    go_roundw
                    case rel => exact ⟨n + 1, by omega, by omega, by rw [HLA.out], O4, HC2, b4⟩
                    case measure => simp [slLen, H5.out]; omega
              · have hnK : acc = ⟨#[]⟩ := by rw [← HACC.out, List.getElem?_eq_none (by omega)]; rfl
                subst hnK
                have HEND := Lib.hid (show n = M.length ∨ n = 9 from Or.inl (by omega))
                have HVE := Lib.hid (end_val HM.out hkM HEND.out HC.out)
                have I3 := Lib.hid (HOi.out.read (HSZ.out n))
                have C := Lib.hid (refRight15_any a3 cc3 (M.take n) wi I3.out (by unfold maxLen; rw [HLEN.out]; omega))
                rw [HLEN.out] at C
                cases hr : rightLB (M.take n) with
                | false =>
                  rw [hr] at C
                  have E1 := Lib.hid (show mergeV l = [] by rw [HVE.out, hr]; rfl)
                  have E2 := Lib.hid (show mergeE l = 41 by unfold mergeE; rw [E1.out]; rfl)
                  clear hr
                  go_wp2_with fail
                  refine C.out.mono ?_
                  rintro e w8 ⟨rfl, b8⟩
                  have b9 := hbi.trans (b8.mono hbi.size)
                  go_wp2_with fail
                  go_ret2
                  exact ⟨none, 0, by rw [E1.out, E2.out]; rfl, by rw [E1.out]; exact LnsP.nil _ _ _, b9⟩
                | true =>
                  rw [hr] at C
                  have E1 := Lib.hid (show mergeV l = M.take n by rw [HVE.out, hr]; rfl)
                  have E2 := Lib.hid (show mergeE l = 0 by
                    unfold mergeE
                    rw [E1.out]
                    have := ((rightLB_iff _).1 hr).1.1
                    cases e : M.take n with
                    | nil => rw [e] at this; simp at this
                    | cons => rfl)
                  clear hr
                  go_wp2_with fail
                  refine C.out.mono ?_
                  rintro e w8 ⟨rfl, b8⟩
                  have b9 := hbi.trans (b8.mono hbi.size)
                  go_wp2_with fail
                  go_ret2
                  exact ⟨a3, cc3, by rw [E1.out, E2.out, HLEN.out]; rfl, by rw [E1.out]; exact I3.out.below b8, b9⟩
        · have hd9 : decide ((n : Int) < 9) = false := by simp; omega
          have HEND := Lib.hid (show n = M.length ∨ n = 9 from Or.inr (by omega))
          have HVE := Lib.hid (end_val HM.out hkM HEND.out HC.out)
          have I3 := Lib.hid (HO.out.read (HSZ.out n))
          have C := Lib.hid (refRight15_any a3 cc3 (M.take n) wo I3.out (by unfold maxLen; rw [HLEN.out]; omega))
          rw [HLEN.out] at C
          cases hr : rightLB (M.take n) with
          | false =>
            rw [hr] at C
            have E1 := Lib.hid (show mergeV l = [] by rw [HVE.out, hr]; rfl)
            have E2 := Lib.hid (show mergeE l = 41 by unfold mergeE; rw [E1.out]; rfl)
            clear hr
            go_wp2_with fail
            refine C.out.mono ?_
            rintro e w8 ⟨rfl, b8⟩
            have b9 := hbw.trans (b8.mono hbw.size)
            go_wp2_with fail
            go_ret2
            exact ⟨none, 0, by rw [E1.out, E2.out]; rfl, by rw [E1.out]; exact LnsP.nil _ _ _, b9⟩
          | true =>
            rw [hr] at C
            have E1 := Lib.hid (show mergeV l = M.take n by rw [HVE.out, hr]; rfl)
            have E2 := Lib.hid (show mergeE l = 0 by
              unfold mergeE
              rw [E1.out]
              have := ((rightLB_iff _).1 hr).1.1
              cases e : M.take n with
              | nil => rw [e] at this; simp at this
              | cons => rfl)
            clear hr
            go_wp2_with fail
            refine C.out.mono ?_
            rintro e w8 ⟨rfl, b8⟩
            have b9 := hbw.trans (b8.mono hbw.size)
            go_wp2_with fail
            go_ret2
            exact ⟨a3, cc3, by rw [E1.out, E2.out, HLEN.out]; rfl, by rw [E1.out]; exact I3.out.below b8, b9⟩

end Go.Proofs.Ytijcgioggmphkaa
