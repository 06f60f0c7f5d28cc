/- PacketShort: the law returns true for any two numbers: a number has as many bytes as its bits say, and of two numbers neither one begins the other one, but they are the same. It has no conditions. -/
import Derived.Test.YtfdeeanoohopfaaArgs
import Derived.Deep.RegionLaw
import Derived.Deep.DeepCutAuto
namespace Go.Proofs.Ytfdeeanoohopfaa
open Go.ChangeShapes Go.WideShapes Go.ChangeAt Go.RowKit

/-- One number behind nothing, wherever it lies. -/
theorem number_cell (n : Nat) (W : World) (N : Nat) (hn : n < 18446744073709551616) (hN : N < W.heap.size) (hc : W.cell? ⟨N, 0, none⟩ = some (.int .u64 (n : Int))) :
    Calls Try.prog 12 #[.slice none 0 0, .slice (some ⟨N, 0, none⟩) 1 1] W (BytesPost (numL n) (numL n).length W) := by
  refine (number_any none _ 0 1 [] [n] W (BytesP.nil _ _ _) ⟨by simp, by simp, fun b hb => by simp at hb; omega, fun _ => ⟨N, 0, rfl, hN, fun j x hj => ?_⟩⟩ (by simp) (by simp)).mono ?_
  · match j, hj with
    | 0, hj => simp at hj; subst hj; exact hc
    | _ + 1, hj => simp at hj
  · rintro e w' ⟨v, rfl, ho, hb⟩
    have hf : [] ++ numsL [n] = numL n := by simp [numsL]
    rw [hf] at ho
    obtain ⟨a', c', rfl, hB⟩ := ho.bytes (numL_bytes n)
    exact ⟨a', c', rfl, hB, hb⟩

theorem strB_extract (l : List Nat) (k : Nat) : (strB l).extract 0 k = strB (l.take k) := by
  have e : ((strB l).extract 0 k).data.toList = (strB (l.take k)).data.toList := by
    rw [Lib.extract_eq]
    simp [strB, strOfNums, List.map_take]
  have e2 := Array.toList_inj.1 e
  cases h1 : (strB l).extract 0 k
  cases h2 : strB (l.take k)
  rw [h1, h2] at e2
  simp only at e2
  rw [e2]

/-- What the two texts are to each other. -/
theorem short_begins (a b : Nat) : (a = b ∧ (numL a).length ≤ (numL b).length ∧ ((strB (numL b)).extract 0 (numL a).length = strB (numL a))) ∨
    (a ≠ b ∧ ((numL a).length ≤ (numL b).length → ¬ (strB (numL b)).extract 0 (numL a).length = strB (numL a))) := by
  by_cases h : a = b
  · subst h
    exact .inl ⟨rfl, Nat.le_refl _, by rw [strB_extract, List.take_length]⟩
  · refine .inr ⟨h, fun hl e => h ?_⟩
    rw [strB_extract] at e
    have e2 := strB_inj (fun x hx => numL_bytes b x (List.mem_of_mem_take hx)) (numL_bytes a) e
    exact numL_begins (r := (numL b).drop (numL a).length) (by conv => lhs; rw [← List.take_append_drop (numL a).length (numL b), e2])

/-- The first number's bytes are there; the second number lies at a place, if it lies anywhere yet. -/
def FirstPost (a : Nat) (w1 : World) (Q : World → Prop) (e : Ending) (w' : World) : Prop := ∃ ad c, e = .returned (.slice ad (numL a).length c) ∧ BytesP w' ad c (numL a) ∧ Below w1.heap.size w1 w' ∧ Q w'

theorem first_alone (a : Nat) (ha : a < 18446744073709551616) (w1 : World) :
    Calls Try.prog 12 #[.slice none 0 0, .slice (some ⟨w1.heap.size, 0, none⟩) 1 1] (w1.alloc (.cells #[.int .u64 (a : Int)] 33)).drew (FirstPost a w1 fun _ => True) := by
  refine (number_cell a _ _ ha (by simp) (by simp)).mono ?_
  rintro e w2 ⟨ad, c, rfl, hB, hb⟩
  exact ⟨ad, c, rfl, hB, (((Below.refl w1.heap.size w1).alloc (Nat.le_refl _) _).drew).trans (hb.mono (by simp)), trivial⟩

theorem first_ahead (a b : Nat) (ha : a < 18446744073709551616) (w1 : World) :
    Calls Try.prog 12 #[.slice none 0 0, .slice (some ⟨w1.heap.size, 0, none⟩) 1 1] ((w1.alloc (.cells #[.int .u64 (a : Int)] 33)).alloc (.cells #[.int .u64 (b : Int)] 33)).drew (FirstPost a w1 fun w' => w1.heap.size + 1 < w'.heap.size ∧ w'.cell? ⟨w1.heap.size + 1, 0, none⟩ = some (.int .u64 (b : Int))) := by
  refine (number_cell a _ _ ha (by simp; omega) (by simp)).mono ?_
  rintro e w2 ⟨ad, c, rfl, hB, hb⟩
  have hs := hb.size
  simp at hs
  exact ⟨ad, c, rfl, hB, ((((Below.refl w1.heap.size w1).alloc (Nat.le_refl _) _).alloc (by simp) _).drew).trans (hb.mono (by simp; omega)), by omega, (hb.cell (p := ⟨w1.heap.size + 1, 0, none⟩) (by simp)).trans (by simp)⟩

theorem first_behind (a b : Nat) (ha : a < 18446744073709551616) (w1 : World) :
    Calls Try.prog 12 #[.slice none 0 0, .slice (some ⟨w1.heap.size + 1, 0, none⟩) 1 1] ((w1.alloc (.cells #[.int .u64 (b : Int)] 33)).alloc (.cells #[.int .u64 (a : Int)] 33)).drew (FirstPost a w1 fun w' => w1.heap.size < w'.heap.size ∧ w'.cell? ⟨w1.heap.size, 0, none⟩ = some (.int .u64 (b : Int))) := by
  refine (number_cell a _ _ ha (by simp) (by simp)).mono ?_
  rintro e w2 ⟨ad, c, rfl, hB, hb⟩
  have hs := hb.size
  simp at hs
  exact ⟨ad, c, rfl, hB, ((((Below.refl w1.heap.size w1).alloc (Nat.le_refl _) _).alloc (by simp) _).drew).trans (hb.mono (by simp; omega)), by omega, (hb.cell (p := ⟨w1.heap.size, 0, none⟩) (by simp; omega)).trans (by simp)⟩

set_option maxHeartbeats 4000000 in
theorem short_walk (a b : Nat) (w : World) (ha : a < 18446744073709551616) (hb : b < 18446744073709551616) : Calls Try.prog 8 #[.int .u64 (a : Int), .int .u64 (b : Int)] w (TrueB w) := by
  have CB := Lib.hid (fun W N h1 h2 => number_cell b W N hb h1 h2)
  have CN := Lib.hid (fun W => number_nil b b rfl hb W W.heap.size rfl)
  have hla := numL_ten ha
  have hlb := numL_ten hb
  have HB := Lib.hid (short_begins a b)
  have hsa := strB_size (numL a)
  have hsb := strB_size (numL b)
  go_enter Try.func8, Try.ntmps8
  go_wp2_with fail
  refine (alive_any _).mono ?_
  rintro e w1 ⟨rfl, b1⟩
  have B1 := Lib.hid b1
  have A1 := Lib.hid (first_alone a ha w1)
  have A2 := Lib.hid (first_ahead a b ha w1)
  have A3 := Lib.hid (first_behind a b ha w1)
  clear b1
  go_wp2_with fail
  go_cut [5, 6] (fun s5 s6 wx => s5 = .string (strB (numL a)) ∧ s6 = .string (strB (numL b)) ∧ Hid (Below w.heap.size w wx))
  case first =>
    go_region_law (go_simp; first
      | (go_at_call 12; (first | with_reducible refine A1.out.mono ?_ | with_reducible refine A2.out.mono ?_ | with_reducible refine A3.out.mono ?_); rintro e w2 ⟨a2, c2, rfl, hB2, b2, hq2⟩
         have HB2 := Lib.hid hB2
         have tA := run_text hB2
         have tA2 := run_text (hB2.below ((Below.refl _ w2).alloc (Nat.le_refl _) (.cells #[.int .u64 (b : Int)] 33)))
         have B2 := Lib.hid (B1.out.trans (b2.mono B1.out.size))
         have HQ2 := Lib.hid hq2
         clear hB2 b2 hq2)
      | (go_at_call 12; (first | with_reducible refine (CN.out w2).mono ?_ | with_reducible refine (CB.out w2 _ HQ2.out.1 HQ2.out.2).mono ?_); rintro e w3 ⟨a3, c3, rfl, hB3, b3⟩
         have tB := run_text hB3
         have tA3 := run_text (HB2.out.below b3)
         have B3 := Lib.hid (B2.out.trans (b3.mono B2.out.size))
         clear hB3 b3))
    all_goals
      go_wp2_with fail
      go_meet
      exact ⟨rfl, rfl, B3⟩
  case rest =>
    obtain ⟨rfl, rfl, B3⟩ := hcut
    have HA := Lib.hid (show ∀ m : Nat, 128 ≤ m → (numL m).length = (numL (m / 128)).length + 1 from fun m h => by rw [numL_great h]; rfl)
    have HS := Lib.hid (show ∀ m : Nat, m < 128 → (numL m).length = 1 from fun m h => by rw [numL_small h]; rfl)
    clear A1 A2 A3 CB CN B1
    generalize strB (numL a) = sa at *
    generalize strB (numL b) = sb at *
    have HL := Lib.hid (show 1 + (numL a).length = (numL a).length + 1 by omega)
    go_wp2_with fail
    go_loop [7, 8] (fun s i => ∃ k m : Nat, s = .int .i64 k ∧ i = .int .u64 m ∧ m < 18446744073709551616 ∧ k ≤ 10 ∧ Hid (k + (numL m).length = (numL a).length + 1)) (fun _ i => (intOf i).toNat)
    case atStart => exact ⟨1, a, rfl, rfl, ha, by omega, HL⟩
    case round =>
      obtain ⟨k, m, rfl, rfl, hm, hk, HK⟩ := hrel
      by_cases hlt : 128 ≤ m
      · have hlt' : decide (128 ≤ (m : Int)) = true := by simp; omega
        have HN := Lib.hid (show k + 1 + (numL (m / 128)).length = (numL a).length + 1 by have := HK.out; rw [HA.out m hlt] at this; omega)
        have hk1 : k + 1 ≤ 10 := by
          have h1 := HN.out
          have := numL_pos (m / 128)
          omega
        go_wp2_with fail
        go_round
        case rel => exact ⟨k + 1, m / 128, by go_num, by go_num, by omega, hk1, HN⟩
        case measure => simp [intOf]; omega
      · have hlt' : decide (128 ≤ (m : Int)) = false := by simp; omega
        have hkn : k = (numL a).length := by have h1 := HK.out; rw [HS.out m (by omega)] at h1; omega
        clear HK HL HA HS
        rw [← hkn] at hsa
        rw [← hkn] at HB
        generalize hnb : (numL b).length = nb at *
        clear hkn hnb hla hlb
        rcases HB.out with ⟨h1, h2, h3⟩ | ⟨h1, h2⟩
        · subst h1
          have h2' : decide ((k : Int) ≤ (nb : Int)) = true := by simp; omega
          have h4 := str_eq h3
          have h5 : k ≤ sb.size := by omega
          clear h3 HB
          go_wp2_with fail
          go_ret
          exact ⟨rfl, B3.out⟩
        · have h6 : ((a : Int) == (b : Int)) = false := by simp; omega
          have h7 : (a == b) = false := by simp; omega
          by_cases hkn : k ≤ nb
          · have h2' : decide ((k : Int) ≤ (nb : Int)) = true := by simp; omega
            have h4 := str_ne (h2 hkn)
            have h5 : k ≤ sb.size := by omega
            clear h1 h2 HB
            go_wp2_with fail
            go_ret
            exact ⟨rfl, B3.out⟩
          · have h2' : decide ((k : Int) ≤ (nb : Int)) = false := by simp; omega
            clear h1 h2 HB
            go_wp2_with fail
            go_ret
            exact ⟨rfl, B3.out⟩



set_option maxRecDepth 100000 in
theorem packetShort_lifted (os : Os) (started : os.Started) (H : Type) (enc : TypeId × Value → H) :
    ReturnsInHanded {} Try.checked os 8 .any (Rows.packetShortSpec.pre6 enc Try.prog Try.f8 Rows.packetShortRow.domain false) (Rows.packetShortSpec.post enc Try.prog Try.f8 false true false false) := by
  refine returnsInHanded_of_change (C := Try.checked) own started (by kernel_rfl) Try.func8
    (ChangeSpec.witness6 (enc := enc) (C := Try.checked) false ⟨#[], #[.int .u64 0, .int .u64 0], []⟩ 8 (by kernel_rfl) (by kernel_rfl) (by kernel_rfl) (by kernel_rfl)) ?_
  intro W base args ds gs before hval0 hW _ _
  have hval : ∀ (j : Nat) t v, Try.f8.params[j]? = some t → args[j]? = some v → Value.okWide Try.prog W .any base t v := hval0
  have hW' := hW
  obtain ⟨p, q, hA0, hV, rfl, _, _⟩ := hW
  have hA : DataW.TrodAll enc Try.prog W 0 (fun _ => true) true Try.f8.params.toList args.toList ds p := hA0
  rw [Try.params8] at hA hval
  obtain ⟨v0, vs0, d0, ds0, p0, q_0, hargs, rfl, rfl, h0, r0⟩ := trodAll_cons hA
  obtain ⟨v1, vs1, d1, ds1, p1, q_1, rfl, rfl, rfl, h1, r1⟩ := trodAll_cons r0
  obtain ⟨rfl, rfl, rfl⟩ := trodAll_nil r1
  obtain rfl : args = #[v0, v1] := by cases args; simp_all
  obtain ⟨rfl, rfl⟩ := trodVars_none hV
  clear hA0 hval0
  simp only [List.append_nil] at hW'
  obtain ⟨i0, rfl, rfl, rfl, w0⟩ := open_int Try.underlying33 (hval 0 33 v0 rfl rfl) h0
  obtain ⟨a0, rfl, hn0⟩ := nat_of_u64 w0
  obtain ⟨i1, rfl, rfl, rfl, w1⟩ := open_int Try.underlying33 (hval 1 33 v1 rfl rfl) h1
  obtain ⟨a1, rfl, hn1⟩ := nat_of_u64 w1
  refine (short_walk a0 a1 W hn0 hn1).mono fun e W' ⟨he, hb⟩ => ?_
  subst he
  exact ⟨_, rfl, _, _, _, [], [], [], hW', trodAll_mk1 (shut_bool Try.underlying4 _), (trodAll_cons_mk (shut_int Try.underlying33 w0) (trodAll_cons_mk (shut_int Try.underlying33 w1) trodAll_mk0)), rfl, hb.frame _, fun h => by cases h⟩

theorem packetShort_holds : Rows.PacketShortSaid :=
  OpenClaim.holds_of_wide 8 Try.f8 rfl rfl rfl rfl rfl rfl rfl ⟨rfl, rfl, rfl, rfl, rfl⟩ rfl rfl rfl rfl rfl (by kernel_rfl) Try.func8 (by kernel_rfl)
    (of_decide_eq_true (by kernel_rfl)) (by unfold Func.isWrapper; first | (rw [if_pos (by decide +kernel)]; kernel_rfl) | (rw [if_neg (by decide +kernel)]; exact ⟨rfl, rfl⟩))
    (fun os started H enc _ => packetShort_lifted os started H enc)
#print axioms packetShort_holds


end Go.Proofs.Ytfdeeanoohopfaa
