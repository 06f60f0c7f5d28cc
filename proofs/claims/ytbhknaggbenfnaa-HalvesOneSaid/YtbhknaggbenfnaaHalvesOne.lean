/- HalvesOne: the law returns true for any two numbers: one bad one among many is found in twice as many tries as the number can be halved; none bad takes one. It has no conditions. -/
import Derived.Test.YtbhknaggbenfnaaHvAlive
import Derived.Test.YtbhknaggbenfnaaHvBound
import Derived.Test.YtbhknaggbenfnaaHvArgs
import Derived.Test.YtbhknaggbenfnaaHvNm
import Derived.Deep.DeepCutAuto
import Derived.Deep.RegionLaw
import Derived.Deep.RegionHeldLaw
namespace Go.Proofs.Ytbhknaggbenfnaa
open Go.ChangeShapes Go.WideShapes Go.ChangeAt Go.RowKit

set_option maxRecDepth 100000

def namesO (k : Nat) : List ByteArray := (List.range k).map nm2
theorem namesO_succ (k : Nat) : namesO (k + 1) = namesO k ++ [nm2 k] := map_range_succ nm2 k

/-- What holds between two tries. -/
structure One (q : ByteArray → Bool) (names : List ByteArray) (p : Hv ByteArray) : Prop where
  inv : ∃ d, InvH q names p d
  cost : p.tries + costs q p.rest = costH q names
theorem One.new (q : ByteArray → Bool) (names : List ByteArray) (h : names ≠ []) : One q names (newH names) := ⟨⟨[], InvH.new _ names⟩, cost_new _ h⟩
theorem One.step {q : ByteArray → Bool} {names : List ByteArray} {p : Hv ByteArray} (h : One q names p) (hf : FullH p) {b : Bool} (hb : b = (nextH p).all fun x => !q x) : One q names (tellH p b) := by
  obtain ⟨⟨d, h1⟩, h2⟩ := h
  rw [hb]
  exact ⟨⟨_, h1.step⟩, (cost_step hf).trans h2⟩
theorem all_step (q : ByteArray → Bool) (u : List ByteArray) (j : Nat) (h : j < u.length) : ((u.take (j + 1)).all fun x => !q x) = (((u.take j).all fun x => !q x) && !q u[j]) := by
  rw [List.take_add_one, List.getElem?_eq_getElem h, List.all_append]
  simp only [Option.toList, List.all_cons, List.all_nil, Bool.and_true]

/-- How often it was told, as the plan's block says. -/
def triesAt (w : World) (g : Nat) : Nat := match w.cell? ⟨g, 3, none⟩ with | some (.int _ t) => t.toNat | _ => 0
theorem MineL.triesAt {w0 w : World} {g : Nat} {p : Hv ByteArray} {L : Nat → Prop} (h : MineL w0 w g p L) : triesAt w g = p.tries := by
  obtain ⟨_, ⟨_, _, _, _, q⟩, _⟩ := h
  obtain ⟨_, _, _, c, _⟩ := head4 q.head
  unfold Go.Proofs.Ytbhknaggbenfnaa.triesAt
  rw [c]
  rfl

/-- The bad one among these, if there is one. -/
def badO (N : List ByteArray) (a1 : Int) (x : ByteArray) : Bool := decide (0 ≤ a1 ∧ a1 < (N.length : Int)) && (x.toList == (N.getD a1.toNat ByteArray.empty).toList)
theorem badO_out {N : List ByteArray} {a1 : Int} (h : ¬ (0 ≤ a1 ∧ a1 < (N.length : Int))) (x : ByteArray) : badO N a1 x = false := by
  unfold badO
  rw [decide_eq_false h]
  rfl
theorem badO_in {N : List ByteArray} {k : Nat} (h : k < N.length) (x : ByteArray) : badO N (k : Int) x = (x.toList == N[k].toList) := by
  unfold badO
  rw [decide_eq_true ⟨by omega, by omega⟩, Bool.true_and, Int.toNat_natCast, List.getD_eq_getElem?_getD, List.getElem?_eq_getElem h]
  rfl
theorem filter_one : ∀ {N : List ByteArray} {s : ByteArray}, N.Nodup → s ∈ N → N.filter (fun x => x.toList == s.toList) = [s]
  | x :: r, s, hn, hs => by
    have hx := List.nodup_cons.1 hn
    by_cases h : x = s
    · subst h
      rw [List.filter_cons, if_pos (str_eq rfl)]
      rw [List.filter_eq_nil_iff.2]
      intro y hy e
      rw [toList_iff] at e
      exact hx.1 (e ▸ hy)
    · rw [List.filter_cons, if_neg (by rw [str_ne h]; decide)]
      exact filter_one hx.2 ((List.mem_cons.1 hs).resolve_left (fun e => h e.symm))
/-- At the end: none was bad. -/
theorem One.none {N : List ByteArray} {p : Hv ByteArray} {a1 : Int} (h : One (badO N a1) N p) (hr : p.rest = []) (ha : ¬ (0 ≤ a1 ∧ a1 < (N.length : Int))) : p.tries = 1 ∧ p.good = N := by
  obtain ⟨⟨d, hd⟩, hc⟩ := h
  obtain ⟨q1, _⟩ := halves_end hd hr
  rw [hr] at hc
  rw [cost_one (badO N a1) (by
    rintro ⟨q, _⟩
    rw [List.any_eq_true] at q
    obtain ⟨x, _, hx⟩ := q
    rw [badO_out ha] at hx
    cases hx)] at hc
  refine ⟨by simpa [costs] using hc, ?_⟩
  rw [q1, List.filter_eq_self]
  intro x _
  rw [badO_out ha]
  rfl
/-- At the end: one was bad. -/
theorem One.one {N : List ByteArray} {p : Hv ByteArray} {k : Nat} (h : One (badO N (k : Int)) N p) (hr : p.rest = []) (hk : k < N.length) (hn : N.Nodup) (m : Nat) (hm : N.length ≤ 2 ^ m) : p.tries ≤ 2 * m + 1 ∧ p.bad = [N[k]] := by
  obtain ⟨⟨d, hd⟩, hc⟩ := h
  obtain ⟨_, q2⟩ := halves_end hd hr
  have hf : N.filter (badO N (k : Int)) = [N[k]] := by
    rw [← filter_one hn (List.getElem_mem hk)]
    exact List.filter_congr (fun x _ => badO_in hk x)
  have q3 := tries_single hc hr m hm (by rw [hf]; simp)
  rw [hf] at q2 q3
  exact ⟨by simpa using q3, q2⟩

theorem deepO_step {n k f : Nat} (h : 2 ^ k < n) : deepH n (f + 1) k (2 ^ k) = deepH n f (k + 1) (2 ^ (k + 1)) := by
  rw [deepH, if_pos h, Nat.pow_succ, Nat.mul_comm]
theorem deepO_stop {n k : Nat} (h : ¬ 2 ^ k < n) : ∀ f, deepH n f k (2 ^ k) = k
  | 0 => rfl
  | f + 1 => by rw [deepH, if_neg h]

set_option maxHeartbeats 16000000 in
theorem one_walk (n a1 : Int) (w : World) : Calls Try.prog 8 #[.int .i64 n, .int .i64 a1] w (Tell true w) := by
  have CA := Lib.hid (alive_any w)
  by_cases h1 : n < 1
  · go_enter Try.func8, Try.ntmps8
    go_wp2_with fail
    refine CA.out.mono ?_
    rintro e w1 ⟨rfl, b1⟩
    go_wp2_with fail
    go_ret
    exact ⟨rfl, b1⟩
  · by_cases h2 : n > 500
    · go_enter Try.func8, Try.ntmps8
      go_wp2_with fail
      refine CA.out.mono ?_
      rintro e w1 ⟨rfl, b1⟩
      go_wp2_with fail
      go_ret
      exact ⟨rfl, b1⟩
    · obtain ⟨m, rfl⟩ : ∃ m : Nat, n = (m : Int) := ⟨n.toNat, by omega⟩
      have hm1 : 1 ≤ m := by omega
      have hm : m ≤ 500 := by omega
      clear h1 h2
      have h1 : ¬ (m : Int) < 1 := by omega
      have h2 : ¬ (m : Int) > 500 := by omega
      go_enter Try.func8, Try.ntmps8
      go_wp2_with fail
      refine CA.out.mono ?_
      rintro e w1 ⟨rfl, b1⟩
      have T0 := Lib.hid (OwnT.fresh w1 w.heap.size b1.size)
      have B0 := Lib.hid (b1.alloc b1.size (.cells #[] 9))
      clear b1 CA
      go_wp2_with fail
      go_loopw [5, 6] (fun v5 i wr => ∃ k : Nat, k ≤ m ∧ i = .int .i64 k ∧ Hid (OwnT wr w.heap.size v5 (namesO k)) ∧ Hid (Below w.heap.size w wr)) (fun _ i _ => m - (intOf i).toNat)
      case atStart => exact ⟨0, Nat.zero_le _, rfl, T0, B0⟩
      case round =>
        clear T0 B0
        obtain ⟨k, hk, rfl, TR, BR⟩ := hrel
        by_cases hlt : k < m
        · obtain ⟨x, hx, hxl, hxe⟩ : ∃ x : Nat, (k : Int) / 26 = (x : Int) ∧ x ≤ 19 ∧ k / 26 = x := ⟨k / 26, by omega, by omega, rfl⟩
          obtain ⟨y, hy, hyl, hye⟩ : ∃ y : Nat, (k : Int) % 26 = (y : Int) ∧ y ≤ 25 ∧ k % 26 = y := ⟨k % 26, by omega, by omega, rfl⟩
          have XN := Lib.hid (show nm2 k = rb (97 + y) ++ rb (97 + x) by unfold nm2; rw [hxe, hye])
          have e1 : Utf8.encode (97 + (x : Int)) = rb (97 + x) := by have := encode_rb (97 + x) (by omega); rwa [Int.natCast_add] at this
          have e2 : Utf8.encode (97 + (y : Int)) = rb (97 + y) := by have := encode_rb (97 + y) (by omega); rwa [Int.natCast_add] at this
          have hrs := rb_size
          have hw1 : IntKind.i32.wrap (97 + (x : Int)) = 97 + (x : Int) := by rw [IntKind.wrap_i32]; omega
          have hw2 : IntKind.i32.wrap (97 + (y : Int)) = 97 + (y : Int) := by rw [IntKind.wrap_i32]; omega
          have HB := Lib.hid ((Below.refl wr.heap.size wr).alloc (Nat.le_refl _) (.cells #[.string (rb (97 + y) ++ rb (97 + x))] 9))
          have HL := Lib.hid (show (namesO k).length + [rb (97 + y) ++ rb (97 + x)].length ≤ 1000000 by simp [namesO]; omega)
          have HS := Lib.hid (strs_block1 wr (rb (97 + y) ++ rb (97 + x)))
          have HZ := Lib.hid (show w.heap.size ≤ (wr.alloc (.cells #[.string (rb (97 + y) ++ rb (97 + x))] 9)).heap.size by have := BR.out.size; simp; omega)
          have OB := Lib.hid (TR.out.below HB.out)
          clear hxe hye
          go_wp2_with (at_builtin; refine wpList_append_texts rfl _ _ rfl w.heap.size _ (namesO k) [rb (97 + y) ++ rb (97 + x)] rfl OB.out _ _ rfl HS.out HL.out HZ.out ?_)
          intro v' w' ho hg
          have TR' := Lib.hid (show OwnT w' w.heap.size v' (namesO (k + 1)) by rw [namesO_succ, XN.out]; exact ho)
          have BR' := Lib.hid ((BR.out.trans (HB.out.mono BR.out.size)).grown hg (by have := BR.out.size; simp; omega) (fun j hj => TR.out.ge j hj))
          clear ho hg TR BR XN e1 e2 hrs hw1 hw2 hx hxl hy hyl HB HL HS HZ OB
          go_wp2_with fail
          go_roundw
          case rel => exact ⟨k + 1, by omega, by go_num, TR', BR'⟩
          case measure => simp [intOf]; omega
        · obtain rfl : k = m := by omega
          clear hk hlt
          obtain ⟨a5, c5, rfl, s5⟩ := TR.out.strs
          have hN : (namesO k).length = k := by simp [namesO]
          have ND := Lib.hid (map_nodup (fun i j hi hj => nm2_inj hi hj) k hm)
          change Hid (namesO k).Nodup at ND
          have TW := Lib.hid ((twiceT_no _).2 ND.out)
          have CN := Lib.hid (new_any a5 c5 (namesO k) wr s5 (by omega) (by
            intro s hs
            unfold namesO at hs
            obtain ⟨i, _, rfl⟩ := List.mem_map.1 hs
            rw [nm2_size]
            decide))
          have NE := Lib.hid (show namesO k ≠ [] from fun e => by rw [e] at hN; simp at hN; omega)
          have S5 := Lib.hid s5
          have p5 := s5.cap
          rw [hN] at p5
          clear s5 TR
          generalize namesO k = N at *
          rw [hN] at CN
          go_wp2_with fail
          refine CN.out.mono ?_
          intro e w3 hnew
          obtain ⟨g, rfl, hmm⟩ : ∃ g, e = .returned (.tuple #[.pointer (some ⟨g, 0, none⟩), .int .i64 0]) ∧ MineH wr w3 g (newH N) := by
            rcases hnew with ⟨q1, _⟩ | ⟨_, q2⟩
            · rw [TW.out] at q1; cases q1
            · exact q2
          have M0 := Lib.hid hmm.toL
          have OK0 := Lib.hid (show OkH k (newH N) by have := OkH.new N; rwa [hN] at this)
          have FD0 := Lib.hid (One.new (badO N a1) N NE.out)
          clear hnew hmm CN TW NE
          go_wp2_with fail
          go_loopw [] (fun wx => ∃ p : Hv ByteArray, Hid (MineL wr wx g p noL) ∧ Hid (OkH k p) ∧ Hid (One (badO N a1) N p)) (fun wx => 1001 - triesAt wx g)
          case atStart => exact ⟨newH N, M0, OK0, FD0⟩
          case round =>
            clear M0 OK0 FD0
            obtain ⟨p, M, OK, FD⟩ := hrel
            have CX := Lib.hid (M.out.next OK.out (by omega))
            have CY := Lib.hid (fun W hb => (M.out.more (w' := W) hb).next OK.out (by omega))
            cases hr : p.rest with
            | nil =>
              have hx : nextH p = [] := by unfold nextH; rw [hr]; rfl
              rw [hx] at CX
              have HR := Lib.hid hr
              clear hr hx CY
              go_wp2_with fail
              refine CX.out.mono ?_
              rintro e w5 ⟨v5, rfl, o5, b5⟩
              obtain ⟨a8, c8, rfl⟩ := o5.shape
              have M5 := Lib.hid (M.out.more b5)
              simp only [List.length_nil]
              clear o5 CX b5 M
              have hd := (deepH_le k 20 0 1).2
              go_wp2_with fail
              go_loopw [12, 13] (fun d pw wx => ∃ (j q : Nat), j ≤ 20 ∧ d = .int .i64 j ∧ pw = .int .i64 q ∧ q ≤ 1000 ∧ Hid (q = 2 ^ j) ∧ Hid (deepH k 20 0 1 = deepH k (20 - j) j (2 ^ j)) ∧ wx = w5) (fun d _ _ => 20 - (intOf d).toNat)
              case atStart => exact ⟨0, 1, by omega, rfl, rfl, by omega, Lib.hid rfl, Lib.hid rfl, rfl⟩
              case round =>
                obtain ⟨j, q, hj, rfl, rfl, hq, HQ, HK, rfl⟩ := hrel
                by_cases hlt : q < k
                · have hj1 : j < 20 := by
                    refine Nat.lt_of_not_le fun h => ?_
                    have h1 : 2 ^ 20 ≤ 2 ^ j := Nat.pow_le_pow_right (by omega) h
                    have h2 := HQ.out
                    omega
                  have HQ' := Lib.hid (show 2 * q = 2 ^ (j + 1) by rw [HQ.out, Nat.pow_succ, Nat.mul_comm])
                  have HK' := Lib.hid (show deepH k 20 0 1 = deepH k (20 - (j + 1)) (j + 1) (2 ^ (j + 1)) by
                    rw [HK.out, show 20 - j = 20 - (j + 1) + 1 by omega]
                    exact deepO_step (by rw [← HQ.out]; exact hlt))
                  have hl : (q : Int) < (k : Int) := by omega
                  go_wp2_with fail
                  go_roundw
                  case rel => exact ⟨j + 1, 2 * q, by omega, by go_num, by go_num, by omega, HQ', HK', trivial⟩
                  case measure => simp [intOf]; omega
                · have HE := Lib.hid (show deepH k 20 0 1 = j by rw [HK.out]; exact deepO_stop (by rw [← HQ.out]; exact hlt) _)
                  have hl : ¬ (q : Int) < (k : Int) := by omega
                  have hpw : N.length ≤ 2 ^ j := by
                    rw [hN, ← HQ.out]
                    omega
                  clear HQ HK
                  by_cases hin : 0 ≤ a1 ∧ a1 < (N.length : Int)
                  · obtain ⟨i, rfl⟩ : ∃ i : Nat, a1 = (i : Int) := ⟨a1.toNat, by omega⟩
                    have hik : i < N.length := by omega
                    have hik' : (i : Int) < (k : Int) := by omega
                    have FE := Lib.hid (FD.out.one HR.out hik ND.out j hpw)
                    have htle : (p.tries : Int) ≤ 2 * (j : Int) + 1 := by have := FE.out.1; omega
                    have CT := Lib.hid (fun wx (hbw : Below wr.heap.size wr wx) => (M5.out.more hbw).tries)
                    have CB := Lib.hid (fun wx (hbw : Below wr.heap.size wr wx) => show Calls Try.prog 21 #[.pointer (some ⟨g, 0, none⟩)] wx (OwnTs [N[i]] wx) by
                      have := (M5.out.more hbw).bads OK.out (by omega)
                      rwa [FE.out.2] at this)
                    obtain ⟨b2, o2, rfl, q2, d2⟩ := (S5.out.below M5.out.low).at i hik
                    have LB := Lib.hid (BR.out.trans (M5.out.low.mono BR.out.size))
                    generalize N[i] = y at *
                    generalize p.tries = tr at *
                    clear hpw FD OK hin FE M5
                    have D0 := (Below.refl wr.heap.size wr).drew
                    have d0 : wr.drew.cell? ⟨b2, o2 + i, none⟩ = some (.string y) := d2
                    go_upto_region 29 with (fail)
                    have hw1 : IntKind.i64.wrap (2 * (j : Int)) = 2 * (j : Int) := by rw [IntKind.wrap_i64]; omega
                    have hw2 : IntKind.i64.wrap (2 * (j : Int) + 1) = 2 * (j : Int) + 1 := by rw [IntKind.wrap_i64]; omega
                    --@
                    go_region_law (first
                      | ((try go_simp); go_at_call 21; refine (CB.out _ D2).mono ?_; rintro e w8 ⟨v8, rfl, o8, b8⟩; have D3 := D2.trans (b8.mono D2.size); have d8 := (D3.cell (p := ⟨b2, o2 + i, none⟩) q2).trans d2; obtain ⟨a8, c8, rfl, s8⟩ := o8.strs; obtain ⟨b9, o9, rfl, q9, d9⟩ := s8.at 0 (by simp); have p9 := s8.cap; simp only [List.length_singleton] at p9; simp only [List.getElem_cons_zero, Nat.add_zero] at d9; simp only [List.length_singleton]; clear o8 b8 s8)
                      | ((try go_simp); go_at_call 21; refine (CB.out _ D1).mono ?_; rintro e w7 ⟨v7, rfl, o7, b7⟩; have D2 := D1.trans (b7.mono D1.size); have d7 := (D2.cell (p := ⟨b2, o2 + i, none⟩) q2).trans d2; obtain ⟨a7, c7, rfl⟩ := o7.shape; simp only [List.length_singleton]; clear o7 b7)
                      | ((try go_simp); go_at_call 19; refine (CT.out _ D0).mono ?_; rintro e w6 ⟨rfl, b6⟩; have D1 := D0.trans (b6.mono D0.size); have d6 := (D1.cell (p := ⟨b2, o2 + i, none⟩) q2).trans d2; clear b6))
                    all_goals
                      go_wp2_with fail
                      go_ret
                      exact ⟨rfl, LB.out.trans (D3.mono LB.out.size)⟩
                  · have FE := Lib.hid (FD.out.none HR.out hin)
                    have CT := Lib.hid (show Calls Try.prog 19 #[.pointer (some ⟨g, 0, none⟩)] _ (NumB 1 _) by
                      have := M5.out.tries
                      rwa [FE.out.1] at this)
                    have CG := Lib.hid (fun wx hb => show Calls Try.prog 20 #[.pointer (some ⟨g, 0, none⟩)] wx (OwnTs N wx) by
                      have := (M5.out.more (w' := wx) hb).goods OK.out (by omega)
                      rwa [FE.out.2] at this)
                    have LB := Lib.hid (BR.out.trans (M5.out.low.mono BR.out.size))
                    have hor : a1 < 0 ∨ a1 ≥ (k : Int) := by omega
                    clear hpw FD OK hin FE
                    rcases hor with hor | hor
                    · go_wp2_with fail
                      refine CT.out.mono ?_
                      rintro e w6 ⟨rfl, b6⟩
                      go_wp2_with fail
                      refine (CG.out w6 b6).mono ?_
                      rintro e w7 ⟨v7, rfl, o7, b7⟩
                      obtain ⟨a7, c7, rfl⟩ := o7.shape
                      rw [hN]
                      have FIN := Lib.hid (LB.out.trans ((b6.trans (b7.mono b6.size)).mono LB.out.size))
                      clear o7 b6 b7
                      go_wp2_with fail
                      go_ret
                      exact ⟨rfl, FIN.out⟩
                    · go_wp2_with fail
                      refine CT.out.mono ?_
                      rintro e w6 ⟨rfl, b6⟩
                      go_wp2_with fail
                      refine (CG.out w6 b6).mono ?_
                      rintro e w7 ⟨v7, rfl, o7, b7⟩
                      obtain ⟨a7, c7, rfl⟩ := o7.shape
                      rw [hN]
                      have FIN := Lib.hid (LB.out.trans ((b6.trans (b7.mono b6.size)).mono LB.out.size))
                      clear o7 b6 b7
                      go_wp2_with fail
                      go_ret
                      exact ⟨rfl, FIN.out⟩
            | cons u r =>
              have hx : nextH p = u := by unfold nextH; rw [hr]; rfl
              have hu : 0 < u.length := List.length_pos_iff.2 (OK.out.full u (by rw [hr]; simp))
              have hul : u.length ≤ 500 := by
                have q1 := OK.out.size
                have q2 := mem_flat (l := u) (r := p.rest) (by rw [hr]; simp)
                omega
              have HX := Lib.hid hx
              have TN := Lib.hid (show tellN p = 0 by unfold tellN; rw [hr]; rfl)
              have TS := Lib.hid (fun b => tries_step p b (by rw [hr]; simp))
              have ME := Lib.hid M.out.triesAt
              rw [hx] at CX CY
              have hui : (u.length : Int) > 0 := by omega
              clear hr hx
              go_wp2_with fail
              refine CX.out.mono ?_
              rintro e w5 ⟨v, rfl, o5, b5⟩
              obtain ⟨a8, c8, rfl⟩ := o5.shape
              clear o5
              go_wp2_with fail
              refine (CY.out w5 b5).mono ?_
              rintro e w6 ⟨v, rfl, o6, b6⟩
              have b6' := b5.trans (b6.mono b5.size)
              obtain ⟨a9, c9, rfl, s9⟩ := o6.strs
              have S9 := Lib.hid s9
              have p9 := s9.cap
              have M6 := Lib.hid (M.out.more b6')
              have S6 := Lib.hid (S5.out.below (M6.out.low))
              have CT := Lib.hid (fun b => M6.out.tell OK.out (by omega) b)
              clear o6 b5 b6 b6' s9 M CX CY
              go_wp2_with fail
              go_loopw [9, 60] (fun gd j wy => ∃ (b : Bool) (j' : Nat), j' ≤ u.length ∧ gd = .bool b ∧ j = .int .i64 j' ∧ Hid (b = (u.take j').all fun x => !badO N a1 x) ∧ wy = w6) (fun _ j _ => u.length - (intOf j).toNat)
              case atStart => exact ⟨true, 0, Nat.zero_le _, rfl, rfl, Lib.hid rfl, rfl⟩
              case round =>
                obtain ⟨b, j, hj, rfl, rfl, HB, rfl⟩ := hrel
                by_cases hlt : j < u.length
                · obtain ⟨bb, oo, rfl, qq, dd⟩ := S9.out.at j hlt
                  have GS := Lib.hid (all_step (badO N a1) u j hlt)
                  generalize u[j] = x at *
                  cases b with
                  | false =>
                    have HN := Lib.hid (show false = (u.take (j + 1)).all fun x => !badO N a1 x by rw [GS.out, ← HB.out]; rfl)
                    go_wp2_with fail
                    go_roundw
                    case rel => exact ⟨false, j + 1, by omega, rfl, by go_num, HN, trivial⟩
                    case measure => simp [intOf]; omega
                  | true =>
                    by_cases ha : a1 ≥ 0
                    · by_cases hb : a1 < (k : Int)
                      · obtain ⟨i, rfl⟩ : ∃ i : Nat, a1 = (i : Int) := ⟨a1.toNat, by omega⟩
                        have hik : i < N.length := by omega
                        have hik' : i < k := by omega
                        obtain ⟨b2, o2, rfl, q2, d2⟩ := S6.out.at i hik
                        have BO := Lib.hid (badO_in hik x)
                        generalize N[i] = y at *
                        cases hxy : (x.toList == y.toList) with
                        | true =>
                          have HN := Lib.hid (show false = (u.take (j + 1)).all fun x => !badO N (i : Int) x by rw [GS.out, BO.out, hxy]; simp)
                          go_wp2_with fail
                          go_roundw
                          case rel => exact ⟨false, j + 1, by omega, rfl, by go_num, HN, trivial⟩
                          case measure => simp [intOf]; omega
                        | false =>
                          have HN := Lib.hid (show true = (u.take (j + 1)).all fun x => !badO N (i : Int) x by rw [GS.out, BO.out, hxy, ← HB.out]; rfl)
                          go_wp2_with fail
                          go_roundw
                          case rel => exact ⟨true, j + 1, by omega, rfl, by go_num, HN, trivial⟩
                          case measure => simp [intOf]; omega
                      · have HN := Lib.hid (show true = (u.take (j + 1)).all fun x => !badO N a1 x by rw [GS.out, badO_out (by omega), ← HB.out]; rfl)
                        go_wp2_with fail
                        go_roundw
                        case rel => exact ⟨true, j + 1, by omega, rfl, by go_num, HN, trivial⟩
                        case measure => simp [intOf]; omega
                    · have HN := Lib.hid (show true = (u.take (j + 1)).all fun x => !badO N a1 x by rw [GS.out, badO_out (by omega), ← HB.out]; rfl)
                      go_wp2_with fail
                      go_roundw
                      case rel => exact ⟨true, j + 1, by omega, rfl, by go_num, HN, trivial⟩
                      case measure => simp [intOf]; omega
                · have HG := Lib.hid (show b = (nextH p).all fun x => !badO N a1 x by rw [HX.out, HB.out, List.take_of_length_le (by omega)])
                  go_wp2_with fail
                  refine (CT.out b).mono ?_
                  rintro e w7 ⟨rfl, m7, _, _⟩
                  rw [TN.out]
                  have M7 := Lib.hid m7
                  have OK7 := Lib.hid (OK.out.tell b)
                  have FD7 := Lib.hid (FD.out.step OK.out.full HG.out)
                  have TS' := Lib.hid (TS.out b)
                  have ht : (tellH p b).tries ≤ 1000 := by have := OK7.out.time; omega
                  have C7 := Lib.hid m7.tries
                  clear m7 CT M6 OK FD
                  have hti : ¬ (((tellH p b).tries : Nat) : Int) > 1000 := by omega
                  go_wp2_with fail
                  refine C7.out.mono ?_
                  rintro e w8 ⟨rfl, b8⟩
                  have M8 := Lib.hid (M7.out.more b8)
                  go_wp2_with fail
                  go_roundw
                  case rel => exact ⟨_, M8, OK7, FD7⟩
                  case measure =>
                    have q1 := M8.out.triesAt
                    have q2 := ME.out
                    have q3 := TS'.out
                    omega



set_option maxRecDepth 100000 in
theorem halvesOne_lifted (os : Os) (started : os.Started) (H : Type) (enc : TypeId × Value → H) :
    ReturnsInHanded {} Try.checked os 8 .any (Rows.halvesOneSpec.pre6 enc Try.prog Try.f8 Rows.halvesOneRow.domain false) (Rows.halvesOneSpec.post enc Try.prog Try.f8 false true false false) := by
  refine returnsInHanded_of_change (C := Try.checked) own started (by kernel_rfl) Try.func8
    (ChangeSpec.witness6 (enc := enc) (C := Try.checked) false ⟨#[], #[.int .i64 0, .int .i64 0], []⟩ 8 (by kernel_rfl) (by kernel_rfl) (by kernel_rfl) (by kernel_rfl)) ?_
  intro W base args ds gs before hval0 hW _ _
  have hval : ∀ (j : Nat) t v, Try.f8.params[j]? = some t → args[j]? = some v → Value.okWide Try.prog W .any base t v := hval0
  have hW' := hW
  obtain ⟨p, q, hA0, hV, rfl, _, _⟩ := hW
  have hA : DataW.TrodAll enc Try.prog W 0 (fun _ => true) true Try.f8.params.toList args.toList ds p := hA0
  rw [Try.params8] at hA hval
  obtain ⟨v0, vs0, d0, ds0, p0, q_0, hargs, rfl, rfl, h0, r0⟩ := trodAll_cons hA
  obtain ⟨v1, vs1, d1, ds1, p1, q_1, rfl, rfl, rfl, h1, r1⟩ := trodAll_cons r0
  obtain ⟨rfl, rfl, rfl⟩ := trodAll_nil r1
  obtain rfl : args = #[v0, v1] := by cases args; simp_all
  obtain ⟨rfl, rfl⟩ := trodVars_none hV
  clear hA0 hval0
  simp only [List.append_nil] at hW'
  obtain ⟨a0, rfl, rfl, rfl, w0⟩ := open_int Try.underlying3 (hval 0 3 v0 rfl rfl) h0
  obtain ⟨a1, rfl, rfl, rfl, w1⟩ := open_int Try.underlying3 (hval 1 3 v1 rfl rfl) h1
  refine (one_walk a0 a1 W).mono fun e W' ⟨he, hb⟩ => ?_
  subst he
  exact ⟨_, rfl, _, _, _, [], [], [], hW', trodAll_mk1 (shut_bool Try.underlying4 _), (trodAll_cons_mk (shut_int Try.underlying3 w0) (trodAll_cons_mk (shut_int Try.underlying3 w1) trodAll_mk0)), rfl, hb.frame _, fun h => by cases h⟩

theorem halvesOne_holds : Rows.HalvesOneSaid :=
  OpenClaim.holds_of_wide 8 Try.f8 rfl rfl rfl rfl rfl rfl rfl ⟨rfl, rfl, rfl, rfl, rfl⟩ rfl rfl rfl rfl rfl (by kernel_rfl) Try.func8 (by kernel_rfl)
    (of_decide_eq_true (by kernel_rfl)) (by unfold Func.isWrapper; first | (rw [if_pos (by decide +kernel)]; kernel_rfl) | (rw [if_neg (by decide +kernel)]; exact ⟨rfl, rfl⟩))
    (fun os started H enc _ => halvesOne_lifted os started H enc)
#print axioms halvesOne_holds


end Go.Proofs.Ytbhknaggbenfnaa
