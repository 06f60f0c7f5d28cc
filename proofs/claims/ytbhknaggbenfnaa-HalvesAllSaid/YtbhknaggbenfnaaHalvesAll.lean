/- HalvesAll: the law returns true for any names and whatever is told of them: each is good, bad, or still to be tried, just once. It has no conditions. -/
import Derived.Test.YtbhknaggbenfnaaHvAlive
import Derived.Test.YtbhknaggbenfnaaHvArgs
namespace Go.Proofs.Ytbhknaggbenfnaa
open Go.ChangeShapes Go.WideShapes Go.ChangeAt Go.RowKit

set_option maxRecDepth 100000

/-- Each name is good, bad, or still to be tried. -/
def AccH (names : List ByteArray) (p : Hv ByteArray) : Prop := ∃ d, (p.good ++ p.bad).Perm d ∧ DoneH p names d
theorem AccH.new (names : List ByteArray) : AccH names (newH names) := ⟨[], List.Perm.refl _, newH_done names⟩
theorem AccH.tell {names : List ByteArray} {p : Hv ByteArray} (h : AccH names p) (g : Bool) : AccH names (tellH p g) := by
  obtain ⟨d, h1, h2⟩ := h
  exact ⟨_, tell_perm h1 g, h2.tell g⟩
theorem AccH.len {names : List ByteArray} {p : Hv ByteArray} (h : AccH names p) : p.good.length + p.bad.length + p.rest.flatten.length = names.length := by
  obtain ⟨d, h1, h2⟩ := h
  unfold DoneH at h2
  have := h1.length_eq
  rw [← h2]
  simp only [List.length_append] at *
  omega
theorem AccH.done {names : List ByteArray} {p : Hv ByteArray} (h : AccH names p) (hr : p.rest = []) : (p.good ++ p.bad).Perm names := by
  obtain ⟨d, h1, h2⟩ := h
  unfold DoneH at h2
  rw [hr] at h2
  simp at h2
  exact h2 ▸ h1

/-- How often a text stands among these. -/
def cntT (l : List ByteArray) (s : ByteArray) : Nat := l.countP fun y => y.toList == s.toList
theorem cntT_step (l : List ByteArray) (s : ByteArray) (k : Nat) (h : k < l.length) : cntT (l.take (k + 1)) s = cntT (l.take k) s + if (l[k].toList == s.toList) = true then 1 else 0 := by
  unfold cntT
  rw [List.take_add_one, List.getElem?_eq_getElem h, List.countP_append]
  simp only [Option.toList, List.countP_cons, List.countP_nil, Nat.zero_add]
theorem cntT_zero {l : List ByteArray} {s : ByteArray} (h : s ∉ l) : cntT l s = 0 := by
  unfold cntT
  rw [List.countP_eq_zero]
  intro y hy e
  rw [toList_iff] at e
  exact h (e ▸ hy)
theorem cntT_nodup {s : ByteArray} : ∀ {l : List ByteArray}, l.Nodup → s ∈ l → cntT l s = 1
  | x :: r, hn, hs => by
    have hx := List.nodup_cons.1 hn
    have e : cntT (x :: r) s = cntT r s + if (x.toList == s.toList) = true then 1 else 0 := by
      unfold cntT
      rw [List.countP_cons]
    rw [e]
    by_cases h : x = s
    · subst h
      rw [cntT_zero hx.1, if_pos (str_eq rfl)]
    · rw [if_neg (by rw [str_ne h]; decide), cntT_nodup hx.2 ((List.mem_cons.1 hs).resolve_left (fun e => h e.symm))]
theorem cntT_one {l m : List ByteArray} (hp : m.Perm l) (hn : l.Nodup) {s : ByteArray} (hs : s ∈ l) : cntT m s = 1 :=
  (hp.countP_eq _).trans (cntT_nodup hn hs)

set_option maxHeartbeats 16000000 in
theorem all_walk (a a' : Option Addr) (cap cap' : Nat) (l : List ByteArray) (t : List Bool) (w : World) (h : StrsP w a cap l ∧ ∀ s ∈ l, s.size ≤ maxLen) (ht : BoolsP w a' cap' t) :
    Calls Try.prog 9 #[.slice a l.length cap, .slice a' t.length cap'] w (Tell true w) := by
  obtain ⟨hS, hz⟩ := h
  have CA := Lib.hid (alive_any w)
  by_cases hl : l.length > 60
  · have hl' : (l.length : Int) > 60 := by omega
    clear hS hz ht
    go_enter Try.func9, Try.ntmps9
    go_wp2_with fail
    refine CA.out.mono ?_
    rintro e w1 ⟨rfl, b1⟩
    go_wp2_with fail
    go_ret
    exact ⟨rfl, b1⟩
  · have hl' : ¬ (l.length : Int) > 60 := by omega
    by_cases ht2 : t.length > 200
    · have ht' : (t.length : Int) > 200 := by omega
      clear hS hz ht
      go_enter Try.func9, Try.ntmps9
      go_wp2_with fail
      refine CA.out.mono ?_
      rintro e w1 ⟨rfl, b1⟩
      go_wp2_with fail
      go_ret
      exact ⟨rfl, b1⟩
    · have ht' : ¬ (t.length : Int) > 200 := by omega
      have S := Lib.hid hS
      have T := Lib.hid ht
      have CN := Lib.hid (fun W (hb : Below w.heap.size w W) => new_any a cap l W (hS.below hb) (by omega) hz)
      have hn : l.length ≤ 60 := by omega
      have htn : t.length ≤ 200 := by omega
      have hpa := hS.cap
      have hpt := ht.cap
      clear hS hz ht hl ht2
      go_enter Try.func9, Try.ntmps9
      go_wp2_with fail
      refine CA.out.mono ?_
      rintro e w1 ⟨rfl, b1⟩
      go_wp2_with fail
      refine (CN.out w1 b1).mono ?_
      intro e w2 hnew
      rcases hnew with ⟨_, rfl, b2⟩ | ⟨hnd, g, rfl, hm⟩
      · have B2 := Lib.hid (b1.trans (b2.mono b1.size))
        clear b1 b2
        go_wp2_with fail
        go_ret
        exact ⟨rfl, B2.out⟩
      · have M0 := Lib.hid hm.toL
        have B1 := Lib.hid b1
        have ND := Lib.hid ((twiceT_no l).1 hnd)
        clear hm b1 hnd CN CA
        go_wp2_with fail
        go_loopw [38] (fun i wr => ∃ (k : Nat) (p : Hv ByteArray), k ≤ t.length ∧ i = .int .i64 k ∧ Hid (MineL w1 wr g p noL) ∧ Hid (OkH l.length p) ∧ Hid (AccH l p)) (fun i _ => t.length - (intOf i).toNat)
        case atStart => exact ⟨0, newH l, Nat.zero_le _, rfl, M0, Lib.hid (OkH.new l), Lib.hid (AccH.new l)⟩
        case round =>
          clear M0
          obtain ⟨k, p, hk, rfl, M, OK, AC⟩ := hrel
          by_cases hlt : k < t.length
          · obtain ⟨b, o, rfl, q1, d1⟩ := (T.out.below (B1.out.trans (M.out.low.mono B1.out.size))).at k hlt
            have CT := Lib.hid (fun x => M.out.tell OK.out (by omega) x)
            generalize t[k] = x at *
            go_wp2_with fail
            refine (CT.out x).mono ?_
            rintro e w3 ⟨rfl, m3, _, _⟩
            have M3 := Lib.hid m3
            have OK3 := Lib.hid (OK.out.tell x)
            have AC3 := Lib.hid (AC.out.tell x)
            clear m3 M OK AC CT
            go_wp2_with fail
            go_roundw
            case rel => exact ⟨k + 1, _, by omega, by go_num, M3, OK3, AC3⟩
            case measure => simp [intOf]; omega
          · have CG := Lib.hid (M.out.goods OK.out (by omega))
            have CB := Lib.hid (fun W hb => (M.out.more (w' := W) hb).bads OK.out (by omega))
            have LN := AC.out.len
            have RL : p.rest.length ≤ 60 := by have := OK.out.lists; omega
            go_wp2_with fail
            refine CG.out.mono ?_
            rintro e w3 ⟨v, rfl, o3, b3⟩
            obtain ⟨a3, c3, rfl⟩ := o3.shape
            have M3 := Lib.hid (M.out.more b3)
            clear o3
            go_wp2_with fail
            refine (CB.out _ b3).mono ?_
            rintro e w4 ⟨v, rfl, o4, b4⟩
            obtain ⟨a4, c4, rfl⟩ := o4.shape
            have M4 := Lib.hid (M3.out.more b4)
            clear o4 b3 b4 M M3 CG CB hlt
            obtain ⟨f, hfe⟩ : ∃ f, p.rest.flatten.length = f := ⟨_, rfl⟩
            rw [hfe] at LN
            have hsub : (l.length : Int) - (p.good.length : Int) - (p.bad.length : Int) = (f : Int) := by omega
            have hf : f ≤ 60 := by omega
            have FE := Lib.hid hfe.symm
            clear LN hfe
            go_wp2_with fail
            go_loopw [9, 10] (fun d i wr => ∃ (k f : Nat) (p : Hv ByteArray), k + p.rest.length ≤ 60 ∧ d = .int .i64 (f : Int) ∧ f ≤ 60 ∧ Hid (f = p.rest.flatten.length) ∧ i = .int .i64 k ∧ Hid (MineL w1 wr g p noL) ∧ Hid (OkH l.length p) ∧ Hid (AccH l p)) (fun _ i _ => 61 - (intOf i).toNat)
            case atStart => exact ⟨0, f, p, by omega, by first | rfl | exact congrArg _ hsub | go_num, hf, FE, rfl, M4, OK, AC⟩
            case round =>
              clear M4 OK AC RL hsub hf FE
              obtain ⟨k, f, p, hk, rfl, hf, FE, rfl, M, OK, AC⟩ := hrel
              have CX := Lib.hid (M.out.next OK.out (by omega))
              have CY := Lib.hid (fun W hb => (M.out.more (w' := W) hb).next OK.out (by omega))
              go_wp2_with fail
              refine CX.out.mono ?_
              rintro e w5 ⟨v, rfl, o5, b5⟩
              obtain ⟨a5, c5, rfl⟩ := o5.shape
              have M5 := Lib.hid (M.out.more b5)
              clear o5
              cases hr : p.rest with
              | nil =>
                have hx : nextH p = [] := by unfold nextH; rw [hr]; rfl
                rw [hx]
                simp only [List.length_nil]
                obtain rfl : f = 0 := by rw [FE.out, hr]; rfl
                have DN := Lib.hid (AC.out.done hr)
                have LE := Lib.hid (show p.good.length + p.bad.length = l.length by have := AC.out.len; rw [hr] at this; simpa using this)
                have CG := Lib.hid (M5.out.goods OK.out (by omega))
                have CB := Lib.hid (fun W hb => (M5.out.more (w' := W) hb).bads OK.out (by omega))
                have BL := Lib.hid (B1.out.trans (M5.out.low.mono B1.out.size))
                clear hr hx b5 M AC CX CY hf hk FE
                go_wp2_with fail
                refine CG.out.mono ?_
                rintro e w6 ⟨v6, rfl, o6, b6⟩
                go_wp2_with fail
                refine (CB.out w6 b6).mono ?_
                rintro e w7 ⟨v7, rfl, o7, b7⟩
                obtain ⟨a7, c7, rfl, s7⟩ := o7.strs
                have O6 := Lib.hid (o6.below b7)
                have S7 := Lib.hid s7
                have B7 := Lib.hid (b6.trans (b7.mono b6.size))
                clear o6 o7 s7 b6 b7 CG CB M5 OK
                go_wp2_with (at_builtin; refine wpList_append_texts rfl _ _ rfl w5.heap.size _ p.good p.bad rfl O6.out a7 c7 rfl S7.out (by have := LE.out; omega) B7.out.size ?_)
                intro v8 w8 o8 g8
                have S8 := Lib.hid (S.out.below (BL.out.trans ((B7.out.grown g8 B7.out.size (fun k hk => O6.out.ge k hk)).mono BL.out.size)))
                have BF := Lib.hid (BL.out.trans ((B7.out.grown g8 B7.out.size (fun k hk => O6.out.ge k hk)).mono BL.out.size))
                obtain ⟨a8, c8, rfl, s8⟩ := o8.strs
                have Q8 := Lib.hid s8
                have p8 := s8.cap
                have LE' : (p.good ++ p.bad).length = l.length := by rw [List.length_append]; exact LE.out
                clear o8 g8 s8 S7 O6 B7 BL S LE
                generalize p.good ++ p.bad = m at *
                rw [LE'] at p8 ⊢
                have HL := Lib.hid LE'
                clear LE'
                go_wp2_with fail
                go_loopw [89] (fun i wr => ∃ k : Nat, k ≤ l.length ∧ i = .int .i64 k ∧ wr = w8) (fun i _ => l.length - (intOf i).toNat)
                case atStart => exact ⟨0, Nat.zero_le _, rfl, rfl⟩
                case round =>
                  obtain ⟨k, hk, rfl, rfl⟩ := hrel
                  by_cases hlt : k < l.length
                  · obtain ⟨b, o, rfl, q1, d1⟩ := S8.out.at k hlt
                    have C1 := Lib.hid (cntT_one DN.out ND.out (List.getElem_mem hlt))
                    generalize l[k] = x at *
                    go_wp2_with fail
                    go_loopw [14, 95] (fun c j wx => ∃ i n : Nat, i ≤ l.length ∧ n ≤ i ∧ c = .int .i64 n ∧ j = .int .i64 i ∧ Hid (n = cntT (m.take i) x) ∧ wx = wr) (fun _ j _ => l.length - (intOf j).toNat)
                    case atStart => exact ⟨0, 0, Nat.zero_le _, Nat.le_refl _, rfl, rfl, Lib.hid rfl, rfl⟩
                    case round =>
                      obtain ⟨i, n, hi, hni, rfl, rfl, HC, rfl⟩ := hrel
                      by_cases hlti : i < l.length
                      · have hltm : i < m.length := by rw [HL.out]; exact hlti
                        obtain ⟨b2, o2, rfl, q2, d2⟩ := Q8.out.at i hltm
                        have ST := Lib.hid (cntT_step m x i hltm)
                        generalize m[i] = y at *
                        cases hb : (y.toList == x.toList) with
                        | true =>
                          have HC' := Lib.hid (show n + 1 = cntT (m.take (i + 1)) x by rw [ST.out, ← HC.out, hb]; rfl)
                          go_wp2_with fail
                          go_roundw
                          case rel => exact ⟨i + 1, n + 1, by omega, by omega, by go_num, by go_num, HC', trivial⟩
                          case measure => simp [intOf]; omega
                        | false =>
                          have HC' := Lib.hid (show n = cntT (m.take (i + 1)) x by rw [ST.out, ← HC.out, hb]; rfl)
                          go_wp2_with fail
                          go_roundw
                          case rel => exact ⟨i + 1, n, by omega, by omega, rfl, by go_num, HC', trivial⟩
                          case measure => simp [intOf]; omega
                      · obtain rfl : n = 1 := by rw [HC.out, List.take_of_length_le (by rw [HL.out]; omega)]; exact C1.out
                        go_wp2_with fail
                        go_roundw
                        case rel => exact ⟨k + 1, by omega, by go_num, trivial⟩
                        case measure => simp [intOf]; omega
                  · go_wp2_with fail
                    go_ret
                    exact ⟨rfl, BF.out⟩
              | cons u r =>
                have hx : nextH p = u := by unfold nextH; rw [hr]; rfl
                obtain ⟨f', hfl, hf'⟩ : ∃ f', f = u.length + f' ∧ f' = r.flatten.length := ⟨_, by rw [FE.out, hr, List.flatten_cons, List.length_append], rfl⟩
                have FE' := Lib.hid hf'
                clear FE hf'
                have hu : 0 < u.length := List.length_pos_iff.2 (OK.out.full u (by rw [hr]; simp))
                have TG := Lib.hid (tell_good hr).1
                have CT := Lib.hid (fun W hb => (M5.out.more (w' := W) hb).tell OK.out (by omega) true)
                have OK6 := Lib.hid (OK.out.tell true)
                have AC6 := Lib.hid (AC.out.tell true)
                have hk60 : k ≤ 59 := by rw [hr] at hk; simp at hk; omega
                have hkr : k + 1 + r.length ≤ 60 := by rw [hr] at hk; simp at hk; omega
                have CY' := Lib.hid (CY.out w5 b5)
                rw [hx] at CY'
                rw [hx]
                subst hfl
                have hsub : ((u.length + f' : Nat) : Int) - (u.length : Int) = (f' : Int) := by omega
                have hsub' : ((u.length : Int) + (f' : Int)) - (u.length : Int) = (f' : Int) := by omega
                have hui : (u.length : Int) > 0 := by omega
                have hki : (k : Int) ≤ 60 := by omega
                clear hr hx b5 M OK AC CX CY hk hu
                go_wp2_with fail
                refine CY'.out.mono ?_
                rintro e w6 ⟨v, rfl, o6, b6⟩
                obtain ⟨a6, c6, rfl⟩ := o6.shape
                clear o6
                go_wp2_with fail
                refine (CT.out w6 b6).mono ?_
                rintro e w7 ⟨rfl, m7, _, _⟩
                have M7 := Lib.hid m7
                clear m7 b6 M5 CT CY'
                rw [TG.out] at M7 OK6 AC6
                go_wp2_with fail
                go_roundw
                case rel => exact ⟨k + 1, f', _, hkr, by first | rfl | exact congrArg _ hsub' | go_num, by omega, FE', by go_num, M7, OK6, AC6⟩
                case measure => simp [intOf]; omega



set_option maxRecDepth 100000 in
theorem halvesAll_lifted (os : Os) (started : os.Started) (H : Type) (enc : TypeId × Value → H) :
    ReturnsInHanded {} Try.checked os 9 .any (Rows.halvesAllSpec.pre6 enc Try.prog Try.f9 Rows.halvesAllRow.domain false) (Rows.halvesAllSpec.post enc Try.prog Try.f9 false true false false) := by
  refine returnsInHanded_of_change (C := Try.checked) own started (by kernel_rfl) Try.func9
    (ChangeSpec.witness6 (enc := enc) (C := Try.checked) false ⟨#[], #[.slice none 0 0, .slice none 0 0], []⟩ 8 (by kernel_rfl) (by kernel_rfl) (by kernel_rfl) (by kernel_rfl)) ?_
  intro W base args ds gs before hval0 hW _ _
  have hval : ∀ (j : Nat) t v, Try.f9.params[j]? = some t → args[j]? = some v → Value.okWide Try.prog W .any base t v := hval0
  have hW' := hW
  obtain ⟨p, q, hA0, hV, rfl, _, _⟩ := hW
  have hA : DataW.TrodAll enc Try.prog W 0 (fun _ => true) true Try.f9.params.toList args.toList ds p := hA0
  rw [Try.params9] at hA hval
  obtain ⟨v0, vs0, d0, ds0, p0, q_0, hargs, rfl, rfl, h0, r0⟩ := trodAll_cons hA
  obtain ⟨v1, vs1, d1, ds1, p1, q_1, rfl, rfl, rfl, h1, r1⟩ := trodAll_cons r0
  obtain ⟨rfl, rfl, rfl⟩ := trodAll_nil r1
  obtain rfl : args = #[v0, v1] := by cases args; simp_all
  obtain ⟨rfl, rfl⟩ := trodVars_none hV
  clear hA0 hval0
  simp only [List.append_nil] at hW'
  obtain ⟨q0, cap0, l0, rfl, hS0, hm0⟩ := strs_of_trod (hval 0 27 v0 rfl rfl) h0
  have hlt0 : ∀ x ∈ p0, x.block < W.heap.size := fun x hx => by simpa using hW'.lt x (by simpa using (by simp [hx]))
  obtain ⟨q1, cap1, l1, rfl, hS1, hm1⟩ := bools_of_trod (hval 1 33 v1 rfl rfl) h1
  have hlt1 : ∀ x ∈ p1, x.block < W.heap.size := fun x hx => by simpa using hW'.lt x (by simpa using (by simp [hx]))
  refine (all_walk q0 q1 cap0 cap1 l0 l1 W hS0 hS1).mono fun e W' ⟨he, hb⟩ => ?_
  subst he
  have hT : DataW.TrodAll enc Try.prog W' 0 (fun b => decide (b < W.heap.size)) true _ _ _ _ := (trodAll_cons_mk (Below.trod laidOut (by kernel_rfl) (of_decide_eq_true (by kernel_rfl)) h0 hb hlt0) (trodAll_cons_mk (Below.trod laidOut (by kernel_rfl) (of_decide_eq_true (by kernel_rfl)) h1 hb hlt1) trodAll_mk0))
  simp only [List.append_nil] at hT
  exact ⟨_, rfl, _, _, _, [], p0 ++ (p1), [], hW', trodAll_mk1 (shut_bool Try.underlying4 _), hT, rfl, hb.frame _, fun h => by cases h⟩

theorem halvesAll_holds : Rows.HalvesAllSaid :=
  OpenClaim.holds_of_wide 9 Try.f9 rfl rfl rfl rfl rfl rfl rfl ⟨rfl, rfl, rfl, rfl, rfl⟩ rfl rfl rfl rfl rfl (by kernel_rfl) Try.func9 (by kernel_rfl)
    (of_decide_eq_true (by kernel_rfl)) (by unfold Func.isWrapper; first | (rw [if_pos (by decide +kernel)]; kernel_rfl) | (rw [if_neg (by decide +kernel)]; exact ⟨rfl, rfl⟩))
    (fun os started H enc _ => halvesAll_lifted os started H enc)
#print axioms halvesAll_holds


end Go.Proofs.Ytbhknaggbenfnaa
