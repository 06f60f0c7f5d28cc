/- HalvesFinds: the law returns true for any number and any truths: just the bad ones are found, in no more tries than Bound says, and all others are good, in their order. It has no conditions. -/
import Derived.Test.YtbhknaggbenfnaaHvAlive
import Derived.Test.YtbhknaggbenfnaaHvBound
import Derived.Test.YtbhknaggbenfnaaHvArgs
import Derived.Test.YtbhknaggbenfnaaHvNm
import Derived.Test.YtbhknaggbenfnaaTxSame
import Derived.Deep.DeepCutAuto
namespace Go.Proofs.Ytbhknaggbenfnaa
open Go.ChangeShapes Go.WideShapes Go.ChangeAt Go.RowKit

set_option maxRecDepth 100000

/-- None of these is it. -/
def allN (W : List ByteArray) (x : ByteArray) : Bool := W.all fun y => !(x.toList == y.toList)
def goodT (W u : List ByteArray) : Bool := u.all fun x => allN W x
def hitT (W : List ByteArray) (x : ByteArray) : Bool := !allN W x
theorem allN_step (W : List ByteArray) (x : ByteArray) (i : Nat) (h : i < W.length) : allN (W.take (i + 1)) x = (allN (W.take i) x && !(x.toList == W[i].toList)) := by
  unfold allN
  rw [List.take_add_one, List.getElem?_eq_getElem h, List.all_append]
  simp only [Option.toList, List.all_cons, List.all_nil, Bool.and_true]
theorem goodT_step (W u : List ByteArray) (j : Nat) (h : j < u.length) : goodT W (u.take (j + 1)) = (goodT W (u.take j) && allN W u[j]) := by
  unfold goodT
  rw [List.take_add_one, List.getElem?_eq_getElem h, List.all_append]
  simp only [Option.toList, List.all_cons, List.all_nil, Bool.and_true]
theorem good_oracle (W : List ByteArray) (p : Hv ByteArray) : goodT W (nextH p) = oracle (hitT W) p := by
  unfold goodT oracle hitT
  congr 1
  funext x
  rw [Bool.not_not]
theorem hit_iff (W : List ByteArray) (x : ByteArray) : hitT W x = true ↔ x ∈ W := by
  unfold hitT allN
  rw [Bool.not_eq_true', ← Bool.not_eq_true, List.all_eq_true]
  constructor
  · intro h
    refine Classical.byContradiction fun hx => h fun y hy => ?_
    rw [Bool.not_eq_true', str_ne (fun e : x = y => hx (e.symm ▸ hy))]
  · intro h e
    have := e x h
    rw [str_eq rfl] at this
    cases this

def badAt (t : List Bool) (i : Nat) : Bool := t.getD i false
def namesF (k : Nat) : List ByteArray := (List.range k).map nm3
def wrongF (t : List Bool) (k : Nat) : List ByteArray := ((List.range k).filter (badAt t)).map nm3
def rightF (t : List Bool) (k : Nat) : List ByteArray := ((List.range k).filter fun i => !badAt t i).map nm3
theorem names_succ (k : Nat) : namesF (k + 1) = namesF k ++ [nm3 k] := map_range_succ nm3 k
theorem wrong_yes {t : List Bool} {k : Nat} (h : badAt t k = true) : wrongF t (k + 1) = wrongF t k ++ [nm3 k] ∧ rightF t (k + 1) = rightF t k := by
  unfold wrongF rightF
  rw [List.range_succ, List.filter_append, List.filter_append, List.map_append, List.map_append]
  simp [h]
theorem wrong_no {t : List Bool} {k : Nat} (h : badAt t k = false) : wrongF t (k + 1) = wrongF t k ∧ rightF t (k + 1) = rightF t k ++ [nm3 k] := by
  unfold wrongF rightF
  rw [List.range_succ, List.filter_append, List.filter_append, List.map_append, List.map_append]
  simp [h]
theorem wrong_len (t : List Bool) (k : Nat) : (wrongF t k).length ≤ k := by
  unfold wrongF
  rw [List.length_map]
  exact Nat.le_trans (List.length_filter_le _ _) (by simp)
theorem right_len (t : List Bool) (k : Nat) : (rightF t k).length ≤ k := by
  unfold rightF
  rw [List.length_map]
  exact Nat.le_trans (List.length_filter_le _ _) (by simp)
theorem hit_name (t : List Bool) (n : Nat) (hn : n ≤ 200) (i : Nat) (hi : i < n) : hitT (wrongF t n) (nm3 i) = badAt t i := by
  rw [Bool.eq_iff_iff, hit_iff]
  unfold wrongF
  rw [List.mem_map]
  constructor
  · rintro ⟨j, hj, e⟩
    rw [List.mem_filter, List.mem_range] at hj
    rw [← nm3_inj (by omega) (by omega) e]
    exact hj.2
  · intro h
    exact ⟨i, List.mem_filter.2 ⟨List.mem_range.2 hi, h⟩, rfl⟩
theorem filter_names (t : List Bool) (n : Nat) (hn : n ≤ 200) : (namesF n).filter (hitT (wrongF t n)) = wrongF t n ∧ (namesF n).filter (fun x => !hitT (wrongF t n) x) = rightF t n := by
  have e1 : ∀ i ∈ List.range n, (hitT (wrongF t n) ∘ nm3) i = badAt t i := fun i hi => hit_name t n hn i (List.mem_range.1 hi)
  constructor
  · unfold namesF
    rw [List.filter_map, List.filter_congr e1]
    rfl
  · unfold namesF
    rw [List.filter_map, List.filter_congr (q := fun i => !badAt t i) (fun i hi => by
      show (!hitT (wrongF t n) (nm3 i)) = _
      rw [show hitT (wrongF t n) (nm3 i) = badAt t i from e1 i hi])]
    rfl

/-- What holds between two tries. -/
structure Fnd (W names : List ByteArray) (p : Hv ByteArray) : Prop where
  inv : ∃ d, InvH (hitT W) names p d
  cost : p.tries + costs (hitT W) p.rest = costH (hitT W) names
theorem Fnd.new (W names : List ByteArray) (h : names ≠ []) : Fnd W names (newH names) := ⟨⟨[], InvH.new _ names⟩, cost_new _ h⟩
theorem Fnd.step {W names : List ByteArray} {p : Hv ByteArray} (h : Fnd W names p) (hf : FullH p) {b : Bool} (hb : b = goodT W (nextH p)) : Fnd W names (tellH p b) := by
  rw [hb, good_oracle]
  obtain ⟨⟨d, h1⟩, h2⟩ := h
  exact ⟨⟨_, h1.step⟩, (cost_step hf).trans h2⟩

set_option maxHeartbeats 16000000 in
theorem finds_walk (n : Int) (a' : Option Addr) (cap' : Nat) (t : List Bool) (w : World) (ht : BoolsP w a' cap' t) :
    Calls Try.prog 6 #[.int .i64 n, .slice a' t.length cap'] w (Tell true w) := by
  have CA := Lib.hid (alive_any w)
  by_cases h1 : n < 1
  · clear ht
    go_enter Try.func6, Try.ntmps6
    go_wp2_with fail
    refine CA.out.mono ?_
    rintro e w1 ⟨rfl, b1⟩
    go_wp2_with fail
    go_ret
    exact ⟨rfl, b1⟩
  · by_cases h2 : n > 200
    · clear ht
      go_enter Try.func6, Try.ntmps6
      go_wp2_with fail
      refine CA.out.mono ?_
      rintro e w1 ⟨rfl, b1⟩
      go_wp2_with fail
      go_ret
      exact ⟨rfl, b1⟩
    · by_cases h3 : t.length > 200
      · have h3' : (t.length : Int) > 200 := by omega
        clear ht
        go_enter Try.func6, Try.ntmps6
        go_wp2_with fail
        refine CA.out.mono ?_
        rintro e w1 ⟨rfl, b1⟩
        go_wp2_with fail
        go_ret
        exact ⟨rfl, b1⟩
      · have h3' : ¬ (t.length : Int) > 200 := by omega
        obtain ⟨m, rfl⟩ : ∃ m : Nat, n = (m : Int) := ⟨n.toNat, by omega⟩
        have T := Lib.hid ht
        have hm1 : 1 ≤ m := by omega
        have hm : m ≤ 200 := by omega
        have hpt := ht.cap
        clear ht h1 h2 h3
        have h1 : ¬ (m : Int) < 1 := by omega
        have h2 : ¬ (m : Int) > 200 := by omega
        go_enter Try.func6, Try.ntmps6
        go_wp2_with fail
        refine CA.out.mono ?_
        rintro e w1 ⟨rfl, b1⟩
        have T0 := Lib.hid (Tri.new w w1 b1)
        clear b1 CA
        go_wp2_with fail
        go_loopw [5, 6, 7, 8] (fun v5 v6 v7 i wr => ∃ k : Nat, k ≤ m ∧ i = .int .i64 k ∧ Hid (Tri w wr v5 v6 v7 (namesF k) (wrongF t k) (rightF t k))) (fun _ _ _ i _ => m - (intOf i).toNat)
        case atStart => exact ⟨0, Nat.zero_le _, rfl, T0⟩
        case round =>
          clear T0
          obtain ⟨k, hk, rfl, TR⟩ := hrel
          by_cases hlt : k < m
          · obtain ⟨x, hx, hxl, hxe⟩ : ∃ x : Nat, (k : Int) / 26 = (x : Int) ∧ x ≤ 7 ∧ k / 26 = x := ⟨k / 26, by omega, by omega, rfl⟩
            obtain ⟨y, hy, hyl, hye⟩ : ∃ y : Nat, (k : Int) % 26 = (y : Int) ∧ y ≤ 25 ∧ k % 26 = y := ⟨k % 26, by omega, by omega, rfl⟩
            have XN := Lib.hid (show nm3 k = ((⟨#[110]⟩ : ByteArray) ++ rb (97 + x)) ++ rb (97 + y) by unfold nm3; rw [hxe, hye])
            have e1 : Utf8.encode (97 + (x : Int)) = rb (97 + x) := by have := encode_rb (97 + x) (by omega); rwa [Int.natCast_add] at this
            have e2 : Utf8.encode (97 + (y : Int)) = rb (97 + y) := by have := encode_rb (97 + y) (by omega); rwa [Int.natCast_add] at this
            have hrs := rb_size
            have hw1 : IntKind.i32.wrap (97 + (x : Int)) = 97 + (x : Int) := by rw [IntKind.wrap_i32]; omega
            have hw2 : IntKind.i32.wrap (97 + (y : Int)) = 97 + (y : Int) := by rw [IntKind.wrap_i32]; omega
            clear hxe hye
            go_upto_region 10 with (fail)
            rw [← XN.out]
            clear XN e1 e2 hrs hw1 hw2 hx hxl hy hyl
            obtain ⟨a5, c5, w3, r3, T3⟩ := TR.out.push (nm3 k) (by simp [namesF]; omega) 27
            have R3 := Lib.hid r3
            have TR3 := Lib.hid (names_succ k ▸ T3)
            rw [← names_succ k] at R3
            clear r3 T3 TR
            go_upto_region 11 with (at_builtin; go_must (refine Lib.wpList_append_run _ rfl _ _ 27 27 rfl _ _ rfl rfl _ _ R3.out ?_))
            have LOW := Lib.hid TR3.out.low
            by_cases hkt : k < t.length
            · obtain ⟨b, o, rfl, q1, d1⟩ := (T.out.below LOW.out).at k hkt
              have hbt : badAt t k = t[k] := by unfold badAt; rw [List.getD_eq_getElem?_getD, List.getElem?_eq_getElem hkt]; rfl
              generalize t[k] = z at *
              cases z with
              | true =>
                obtain ⟨hw1, hw2⟩ := wrong_yes hbt
                have P4 := TR3.out.rot.push (nm3 k) (by have := wrong_len t k; omega) 27
                obtain ⟨a6, c6, w4, r4, T4⟩ := P4
                have R4 := Lib.hid r4
                have TR4 := Lib.hid T4.rot.rot
                rw [← hw1] at TR4 R4
                rw [← hw2] at TR4
                clear r4 T4 TR3 R3 hw1 hw2 hbt LOW
                go_wp2_with (at_builtin; go_must (refine Lib.wpList_append_run _ rfl _ _ 27 27 rfl _ _ rfl rfl _ _ R4.out ?_))
                go_roundw
                case rel => exact ⟨k + 1, by omega, by go_num, TR4⟩
                case measure => simp [intOf]; omega
              | false =>
                obtain ⟨hw1, hw2⟩ := wrong_no hbt
                have P4 := TR3.out.rot.rot.push (nm3 k) (by have := right_len t k; omega) 27
                obtain ⟨a7, c7, w4, r4, T4⟩ := P4
                have R4 := Lib.hid r4
                have TR4 := Lib.hid T4.rot
                rw [← hw2] at TR4 R4
                rw [← hw1] at TR4
                clear r4 T4 TR3 R3 hw1 hw2 hbt LOW
                go_wp2_with (at_builtin; go_must (refine Lib.wpList_append_run _ rfl _ _ 27 27 rfl _ _ rfl rfl _ _ R4.out ?_))
                go_roundw
                case rel => exact ⟨k + 1, by omega, by go_num, TR4⟩
                case measure => simp [intOf]; omega
            · have hbt : badAt t k = false := by unfold badAt; rw [List.getD_eq_getElem?_getD, List.getElem?_eq_none (by omega)]; rfl
              obtain ⟨hw1, hw2⟩ := wrong_no hbt
              have P4 := TR3.out.rot.rot.push (nm3 k) (by have := right_len t k; omega) 27
              obtain ⟨a7, c7, w4, r4, T4⟩ := P4
              have R4 := Lib.hid r4
              have TR4 := Lib.hid T4.rot
              rw [← hw2] at TR4 R4
              rw [← hw1] at TR4
              clear r4 T4 TR3 R3 hw1 hw2 hbt LOW
              go_wp2_with (at_builtin; go_must (refine Lib.wpList_append_run _ rfl _ _ 27 27 rfl _ _ rfl rfl _ _ R4.out ?_))
              go_roundw
              case rel => exact ⟨k + 1, by omega, by go_num, TR4⟩
              case measure => simp [intOf]; omega
          · obtain rfl : k = m := by omega
            clear hk
            obtain ⟨a5, c5, rfl, s5⟩ := TR.out.o5.strs
            obtain ⟨a6, c6, rfl, s6⟩ := TR.out.o6.strs
            obtain ⟨a7, c7, rfl, s7⟩ := TR.out.o7.strs
            have hN : (namesF k).length = k := by simp [namesF]
            have hW := wrong_len t k
            have FN := Lib.hid (filter_names t k hm)
            have TW := Lib.hid ((twiceT_no _).2 (map_nodup (fun i j hi hj => nm3_inj hi hj) k (by omega)))
            change Hid (twiceT (namesF k) = false) at TW
            have CN := Lib.hid (new_any a5 c5 (namesF k) wr s5 (by omega) (by
              intro s hs
              unfold namesF at hs
              obtain ⟨i, _, rfl⟩ := List.mem_map.1 hs
              rw [nm3_size]
              decide))
            have NE := Lib.hid (show namesF k ≠ [] from fun e => by rw [e] at hN; simp at hN; omega)
            have S6 := Lib.hid s6
            have S7 := Lib.hid s7
            have LOW := Lib.hid TR.out.low
            have CBD := Lib.hid (fun W => bound_any (k : Int) ((wrongF t k).length : Int) (by omega) W)
            clear s5 s6 s7 TR
            generalize namesF k = N at *
            generalize wrongF t k = W at *
            generalize rightF t k = G at *
            rw [hN] at CN
            go_wp2_with fail
            refine CN.out.mono ?_
            intro e w3 hnew
            obtain ⟨g, rfl, hmm⟩ : ∃ g, e = .returned (.tuple #[.pointer (some ⟨g, 0, none⟩), .int .i64 0]) ∧ MineH wr w3 g (newH N) := by
              rcases hnew with ⟨q1, _⟩ | ⟨_, q2⟩
              · rw [TW.out] at q1; cases q1
              · exact q2
            have M0 := Lib.hid hmm.toL
            have OK0 := Lib.hid (show OkH k (newH N) by have := OkH.new N; rwa [hN] at this)
            have FD0 := Lib.hid (Fnd.new W N NE.out)
            clear hnew hmm CN TW NE
            go_wp2_with fail
            go_loopw [12] (fun tr wx => ∃ p : Hv ByteArray, tr = .int .i64 (p.tries : Int) ∧ Hid (MineL wr wx g p noL) ∧ Hid (OkH k p) ∧ Hid (Fnd W N p)) (fun tr _ => 1000 - (intOf tr).toNat)
            case atStart => exact ⟨newH N, rfl, M0, OK0, FD0⟩
            case round =>
              clear M0 OK0 FD0
              obtain ⟨p, rfl, M, OK, FD⟩ := hrel
              have htm : p.tries ≤ 400 := by have := OK.out.time; omega
              have CX := Lib.hid (M.out.next OK.out (by omega))
              have CY := Lib.hid (fun W hb => (M.out.more (w' := W) hb).next OK.out (by omega))
              have hti : (p.tries : Int) ≤ 1000 := by omega
              cases hr : p.rest with
              | nil =>
                have hx : nextH p = [] := by unfold nextH; rw [hr]; rfl
                rw [hx] at CX
                have TE := Lib.hid (show p.good = G ∧ p.bad = W ∧ (p.tries : Int) ≤ boundV (k : Int) (W.length : Int) by
                  obtain ⟨d, hd⟩ := FD.out.inv
                  obtain ⟨q1, q2⟩ := halves_end hd hr
                  have hp := deepH_pow k 20 0 (by omega)
                  simp only [Nat.pow_zero] at hp
                  have q3 := tries_end FD.out.cost hr (deepH k 20 0 1) (by rw [hN]; exact hp)
                  rw [FN.out.1] at q2 q3
                  rw [FN.out.2] at q1
                  refine ⟨q1, q2, ?_⟩
                  unfold boundV
                  rw [if_neg (by omega), Int.toNat_natCast]
                  have e : (2 * (W.length : Int) * (((deepH k 20 0 1 : Nat) : Int) + 1) + 1) = ((2 * W.length * (deepH k 20 0 1 + 1) + 1 : Nat) : Int) := by simp
                  rw [e]
                  exact Int.ofNat_le.2 q3)
                have hle := TE.out.2.2
                have CB := Lib.hid (fun wx hb => show Calls Try.prog 21 #[.pointer (some ⟨g, 0, none⟩)] wx (OwnTs W wx) by
                  have := (M.out.more (w' := wx) hb).bads OK.out (by omega)
                  rwa [TE.out.2.1] at this)
                have CG := Lib.hid (fun wx hb => show Calls Try.prog 20 #[.pointer (some ⟨g, 0, none⟩)] wx (OwnTs G wx) by
                  have := (M.out.more (w' := wx) hb).goods OK.out (by omega)
                  rwa [TE.out.1] at this)
                generalize boundV (k : Int) (W.length : Int) = v at *
                have MB := Lib.hid M.out.low
                clear hr hx OK FD CY FN TE hti htm
                go_wp2_with fail
                refine CX.out.mono ?_
                rintro e w5 ⟨v5, rfl, o5, b5⟩
                obtain ⟨a8, c8, rfl⟩ := o5.shape
                have CT := Lib.hid (M.out.more b5).tries
                simp only [List.length_nil]
                clear o5 CX
                go_wp2_with fail
                refine CT.out.mono ?_
                rintro e w6 ⟨rfl, b6⟩
                have b6' := b5.trans (b6.mono b5.size)
                clear b5 b6 CT
                go_wp2_with fail
                refine (CBD.out w6).mono ?_
                rintro e w7 ⟨rfl, b7⟩
                have b7' := b6'.trans (b7.mono b6'.size)
                clear b6' b7
                go_wp2_with fail
                refine (CB.out w7 b7').mono ?_
                rintro e w8 ⟨v8, rfl, o8, b8⟩
                have b8' := b7'.trans (b8.mono b7'.size)
                obtain ⟨a9, c9, rfl, s9⟩ := o8.strs
                have CS := Lib.hid (refSameT_any a9 a6 c9 c6 W W w8 s9 ((S6.out.below MB.out).below ⟨b8'.os, b8'.tape, b8'.output, b8'.size, b8'.block⟩))
                rw [sameT_self] at CS
                clear o8 b8 s9 b7'
                go_wp2_with fail
                refine CS.out.mono ?_
                rintro e w9 ⟨rfl, b9⟩
                have b9' := b8'.trans (b9.mono b8'.size)
                clear b9 b8' CS
                go_wp2_with fail
                refine (CG.out w9 b9').mono ?_
                rintro e w10 ⟨v10, rfl, o10, b10⟩
                have b10' := b9'.trans (b10.mono b9'.size)
                obtain ⟨a11, c11, rfl, s11⟩ := o10.strs
                have CS := Lib.hid (refSameT_any a11 a7 c11 c7 G G w10 s11 ((S7.out.below MB.out).below ⟨b10'.os, b10'.tape, b10'.output, b10'.size, b10'.block⟩))
                rw [sameT_self] at CS
                clear o10 b10 s11 b9'
                go_wp2_with fail
                refine CS.out.mono ?_
                rintro e w11 ⟨rfl, b11⟩
                have b11' := b10'.trans (b11.mono b10'.size)
                have FIN := Lib.hid (LOW.out.trans ((MB.out.trans (b11'.mono MB.out.size)).mono LOW.out.size))
                go_wp2_with fail
                go_ret
                exact ⟨rfl, FIN.out⟩
              | cons u r =>
                have hx : nextH p = u := by unfold nextH; rw [hr]; rfl
                have hu : 0 < u.length := List.length_pos_iff.2 (OK.out.full u (by rw [hr]; simp))
                have hul : u.length ≤ 200 := by
                  have q1 := OK.out.size
                  have q2 := mem_flat (l := u) (r := p.rest) (by rw [hr]; simp)
                  omega
                have HX := Lib.hid hx
                have TN := Lib.hid (show tellN p = 0 by unfold tellN; rw [hr]; rfl)
                have TS := Lib.hid (fun b => tries_step p b (by rw [hr]; simp))
                rw [hx] at CX CY
                have hui : (u.length : Int) > 0 := by omega
                clear hr hx
                go_wp2_with fail
                refine CX.out.mono ?_
                rintro e w5 ⟨v, rfl, o5, b5⟩
                obtain ⟨a8, c8, rfl⟩ := o5.shape
                clear o5
                go_wp2_with fail
                refine (CY.out w5 b5).mono ?_
                rintro e w6 ⟨v, rfl, o6, b6⟩
                have b6' := b5.trans (b6.mono b5.size)
                obtain ⟨a9, c9, rfl, s9⟩ := o6.strs
                have S9 := Lib.hid s9
                have p9 := s9.cap
                have M6 := Lib.hid (M.out.more b6')
                have S6' := Lib.hid (S6.out.below (M6.out.low))
                have p6 := S6.out.cap
                have CT := Lib.hid (fun b => M6.out.tell OK.out (by omega) b)
                clear o6 b5 b6 b6' s9 M CX CY
                go_wp2_with fail
                go_loopw [13, 95] (fun gd j wy => ∃ (b : Bool) (j' : Nat), j' ≤ u.length ∧ gd = .bool b ∧ j = .int .i64 j' ∧ Hid (b = goodT W (u.take j')) ∧ wy = w6) (fun _ j _ => u.length - (intOf j).toNat)
                case atStart => exact ⟨true, 0, Nat.zero_le _, rfl, rfl, Lib.hid rfl, rfl⟩
                case round =>
                  obtain ⟨b, j, hj, rfl, rfl, HB, rfl⟩ := hrel
                  by_cases hlt : j < u.length
                  · obtain ⟨bb, oo, rfl, qq, dd⟩ := S9.out.at j hlt
                    have GS := Lib.hid (goodT_step W u j hlt)
                    generalize u[j] = x at *
                    go_wp2_with fail
                    go_loopw [13, 101] (fun gd i wz => ∃ (b' : Bool) (i' : Nat), i' ≤ W.length ∧ gd = .bool b' ∧ i = .int .i64 i' ∧ Hid (b' = (goodT W (u.take j) && allN (W.take i') x)) ∧ wz = wr) (fun _ i _ => W.length - (intOf i).toNat)
                    case atStart => exact ⟨b, 0, Nat.zero_le _, rfl, rfl, Lib.hid (by rw [← HB.out]; simp [allN]), rfl⟩
                    case round =>
                      obtain ⟨b', i, hi, rfl, rfl, HB', rfl⟩ := hrel
                      by_cases hli : i < W.length
                      · obtain ⟨b2, o2, rfl, q2, d2⟩ := S6'.out.at i hli
                        have AS := Lib.hid (allN_step W x i hli)
                        generalize W[i] = y at *
                        cases b' with
                        | false =>
                          have HN := Lib.hid (show false = (goodT W (u.take j) && allN (W.take (i + 1)) x) by rw [AS.out, ← Bool.and_assoc, ← HB'.out]; rfl)
                          go_wp2_with fail
                          go_roundw
                          case rel => exact ⟨false, i + 1, by omega, rfl, by go_num, HN, trivial⟩
                          case measure => simp [intOf]; omega
                        | true =>
                          cases hxy : (x.toList == y.toList) with
                          | true =>
                            have HN := Lib.hid (show false = (goodT W (u.take j) && allN (W.take (i + 1)) x) by rw [AS.out, hxy]; simp)
                            go_wp2_with fail
                            go_roundw
                            case rel => exact ⟨false, i + 1, by omega, rfl, by go_num, HN, trivial⟩
                            case measure => simp [intOf]; omega
                          | false =>
                            have HN := Lib.hid (show true = (goodT W (u.take j) && allN (W.take (i + 1)) x) by rw [AS.out, hxy, ← Bool.and_assoc, ← HB'.out]; rfl)
                            go_wp2_with fail
                            go_roundw
                            case rel => exact ⟨true, i + 1, by omega, rfl, by go_num, HN, trivial⟩
                            case measure => simp [intOf]; omega
                      · have HN := Lib.hid (show b' = goodT W (u.take (j + 1)) by
                          have q := HB'.out
                          rw [List.take_of_length_le (l := W) (i := i) (by omega)] at q
                          rw [GS.out, q])
                        go_wp2_with fail
                        go_roundw
                        case rel => exact ⟨b', j + 1, by omega, rfl, by go_num, HN, trivial⟩
                        case measure => simp [intOf]; omega
                  · have HG := Lib.hid (show b = goodT W (nextH p) by rw [HX.out, HB.out, List.take_of_length_le (by omega)])
                    go_wp2_with fail
                    refine (CT.out b).mono ?_
                    rintro e w7 ⟨rfl, m7, _, _⟩
                    rw [TN.out]
                    have M7 := Lib.hid m7
                    have OK7 := Lib.hid (OK.out.tell b)
                    have FD7 := Lib.hid (FD.out.step OK.out.full HG.out)
                    have TS' := Lib.hid (TS.out b)
                    clear m7 CT M6 OK FD
                    go_wp2_with fail
                    go_roundw
                    case rel => exact ⟨_, by rw [TS'.out]; go_num, M7, OK7, FD7⟩
                    case measure => simp [intOf]; omega



set_option maxRecDepth 100000 in
theorem halvesFinds_lifted (os : Os) (started : os.Started) (H : Type) (enc : TypeId × Value → H) :
    ReturnsInHanded {} Try.checked os 6 .any (Rows.halvesFindsSpec.pre6 enc Try.prog Try.f6 Rows.halvesFindsRow.domain false) (Rows.halvesFindsSpec.post enc Try.prog Try.f6 false true false false) := by
  refine returnsInHanded_of_change (C := Try.checked) own started (by kernel_rfl) Try.func6
    (ChangeSpec.witness6 (enc := enc) (C := Try.checked) false ⟨#[], #[.int .i64 0, .slice none 0 0], []⟩ 8 (by kernel_rfl) (by kernel_rfl) (by kernel_rfl) (by kernel_rfl)) ?_
  intro W base args ds gs before hval0 hW _ _
  have hval : ∀ (j : Nat) t v, Try.f6.params[j]? = some t → args[j]? = some v → Value.okWide Try.prog W .any base t v := hval0
  have hW' := hW
  obtain ⟨p, q, hA0, hV, rfl, _, _⟩ := hW
  have hA : DataW.TrodAll enc Try.prog W 0 (fun _ => true) true Try.f6.params.toList args.toList ds p := hA0
  rw [Try.params6] at hA hval
  obtain ⟨v0, vs0, d0, ds0, p0, q_0, hargs, rfl, rfl, h0, r0⟩ := trodAll_cons hA
  obtain ⟨v1, vs1, d1, ds1, p1, q_1, rfl, rfl, rfl, h1, r1⟩ := trodAll_cons r0
  obtain ⟨rfl, rfl, rfl⟩ := trodAll_nil r1
  obtain rfl : args = #[v0, v1] := by cases args; simp_all
  obtain ⟨rfl, rfl⟩ := trodVars_none hV
  clear hA0 hval0
  simp only [List.append_nil] at hW'
  obtain ⟨a0, rfl, rfl, rfl, w0⟩ := open_int Try.underlying3 (hval 0 3 v0 rfl rfl) h0
  obtain ⟨q1, cap1, l1, rfl, hS1, hm1⟩ := bools_of_trod (hval 1 33 v1 rfl rfl) h1
  have hlt1 : ∀ x ∈ p1, x.block < W.heap.size := fun x hx => by simpa using hW'.lt x (by simpa using (by simp [hx]))
  refine (finds_walk a0 q1 cap1 l1 W hS1).mono fun e W' ⟨he, hb⟩ => ?_
  subst he
  have hT : DataW.TrodAll enc Try.prog W' 0 (fun b => decide (b < W.heap.size)) true _ _ _ _ := (trodAll_cons_mk (shut_int Try.underlying3 w0) (trodAll_cons_mk (Below.trod laidOut (by kernel_rfl) (of_decide_eq_true (by kernel_rfl)) h1 hb hlt1) trodAll_mk0))
  simp only [List.append_nil] at hT
  exact ⟨_, rfl, _, _, _, [], p1, [], hW', trodAll_mk1 (shut_bool Try.underlying4 _), hT, rfl, hb.frame _, fun h => by cases h⟩

theorem halvesFinds_holds : Rows.HalvesFindsSaid :=
  OpenClaim.holds_of_wide 6 Try.f6 rfl rfl rfl rfl rfl rfl rfl ⟨rfl, rfl, rfl, rfl, rfl⟩ rfl rfl rfl rfl rfl (by kernel_rfl) Try.func6 (by kernel_rfl)
    (of_decide_eq_true (by kernel_rfl)) (by unfold Func.isWrapper; first | (rw [if_pos (by decide +kernel)]; kernel_rfl) | (rw [if_neg (by decide +kernel)]; exact ⟨rfl, rfl⟩))
    (fun os started H enc _ => halvesFinds_lifted os started H enc)
#print axioms halvesFinds_holds


end Go.Proofs.Ytbhknaggbenfnaa
