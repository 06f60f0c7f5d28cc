/- The document's own words: what Right and Cut of package packhorseref01 answer. -/
import Derived.Test.YtobicfkbpoimnaaDoorRefSigns
namespace Go.Proofs.YtobicfkbpoimnaaDoor
open Go.RowKit

theorem csL_len (l : List UInt8) : (csL l).length ≤ 16 := by
  unfold csL
  cases h : labOf l with
  | none => simp
  | some cs =>
    obtain ⟨_, _, h2, _⟩ := labOf_some.1 h
    exact h2

theorem refRight_any (s : ByteArray) (w : World) (hs : s.size ≤ 1000000) : Calls Tryd.prog 16 #[.string s] w fun e w' => e = .returned (.bool (rightB s.data.toList)) ∧ Below w.heap.size w w' := by
  have C := Lib.hid (fun w => refSigns_any s w hs)
  have HR := Lib.hid (csL_right s.data.toList)
  go_enter Tryd.func16, Tryd.ntmps16
  go_wp2_with fail
  refine (C.out _).mono ?_
  rintro e w1 ⟨v, rfl, o1, b1⟩
  obtain ⟨a, cap, rfl⟩ := own_shape o1
  clear o1
  go_wp2_with fail
  go_ret
  exact ⟨ret_bool HR.out, b1⟩

/-- The first signs, one behind the other, while they are gone through. -/
def cutTo (cs : List (List UInt8)) (n : Int) (k : Nat) : List UInt8 := ((cs.take k).take n.toNat).flatten

theorem cutTo_zero (cs : List (List UInt8)) (n : Int) : cutTo cs n 0 = [] := by simp [cutTo]
theorem cutTo_none (n : Int) (k : Nat) : cutTo [] n k = [] := by simp [cutTo]

theorem cutTo_step (cs : List (List UInt8)) (n : Int) (k : Nat) (h : k < cs.length) : cutTo cs n (k + 1) = if (k : Int) < n then cutTo cs n k ++ cs[k] else cutTo cs n k := by
  unfold cutTo
  split
  · have e1 : (cs.take (k + 1)).take n.toNat = cs.take (k + 1) := List.take_of_length_le (by rw [List.length_take]; omega)
    have e2 : (cs.take k).take n.toNat = cs.take k := List.take_of_length_le (by rw [List.length_take]; omega)
    rw [e1, e2, List.take_succ_eq_append_getElem h, List.flatten_append]
    simp only [List.flatten_cons, List.flatten_nil, List.append_nil]
  · rw [List.take_take, List.take_take, show min n.toNat (k + 1) = min n.toNat k from by omega]

theorem cutTo_len {cs : List (List UInt8)} (n : Int) (k : Nat) (h : ∀ x ∈ cs, isChunk x = true) (hl : cs.length ≤ 16) : (cutTo cs n k).length ≤ 32 := by
  unfold cutTo
  have := (flatten_len (cs := (cs.take k).take n.toNat) (fun x hx => h x (List.mem_of_mem_take (List.mem_of_mem_take hx)))).2
  simp only [List.length_take] at this
  omega

theorem cutTo_end (l : List UInt8) (n : Int) : cutTo (csL l) n (csL l).length = cutN l n := by
  unfold cutTo cutN cutL csL
  cases h : labOf l with
  | none => simp
  | some cs => simp

set_option maxHeartbeats 2000000 in
theorem refCut_any (s : ByteArray) (n : Int) (w : World) (hs : s.size ≤ 1000000) : Calls Tryd.prog 18 #[.string s, .int .i64 n] w fun e w' => e = .returned (.string ⟨(cutN s.data.toList n).toArray⟩) ∧ Below w.heap.size w w' := by
  have C := Lib.hid (fun w => refSigns_any s w hs)
  have HE := Lib.hid (cutTo_end s.data.toList n)
  have hl := csL_len s.data.toList
  have hch : ∀ x ∈ csL s.data.toList, isChunk x = true := by
    unfold csL
    cases h : labOf s.data.toList with
    | none => simp
    | some cs => exact (chunks_some (labOf_some.1 h).1).2
  have HCH := Lib.hid hch
  clear hch
  go_enter Tryd.func18, Tryd.ntmps18
  go_wp2_with fail
  refine (C.out _).mono ?_
  rintro e w1 ⟨v, rfl, o1, b1⟩
  by_cases hne : csL s.data.toList = []
  · obtain ⟨a, cap, rfl⟩ := own_shape o1
    rw [hne] at o1 HE ⊢
    clear o1 hl hne C
    go_wp2_with fail
    go_loop [5, 11] (fun o i => o = .string ⟨#[]⟩ ∧ i = .int .i64 0) (fun _ _ => 0)
    case atStart => exact ⟨rfl, rfl⟩
    case round =>
      obtain ⟨rfl, rfl⟩ := hrel
      go_wp2_with fail
      go_ret
      refine ⟨?_, b1⟩
      rw [← HE.out, cutTo_none]
      rfl
  · obtain ⟨g, cap, rfl, hcap, hcm, hcl⟩ := own_strs o1 hne
    have HCL := Lib.hid hcl
    clear hcl o1 C
    generalize csL s.data.toList = cs at *
    have HLN := Lib.hid (fun k => cutTo_len n k HCH.out hl)
    have HST := Lib.hid (fun k h => cutTo_step cs n k h)
    go_wp2_with fail
    go_loop [5, 11] (fun o i => ∃ (k : Nat) (ob : ByteArray), k ≤ cs.length ∧ i = .int .i64 k ∧ o = .string ob ∧ Hid (ob.data.toList = cutTo cs n k)) (fun _ i => cs.length - (intOf i).toNat)
    case atStart => exact ⟨0, ⟨#[]⟩, Nat.zero_le _, rfl, rfl, (cutTo_zero cs n).symm⟩
    case round =>
      obtain ⟨k, ob, hk, rfl, rfl, HO⟩ := hrel
      have hob : ob.size ≤ 32 := by rw [Lib.size_eq, HO.out]; exact HLN.out k
      by_cases hlt : k < cs.length
      · have hc := HCL.out k cs[k] (List.getElem?_eq_getElem hlt)
        have hx2 := (chunk_len (HCH.out _ (List.getElem_mem hlt))).2
        have hst := Lib.hid (HST.out k hlt)
        unfold strV at hc
        obtain ⟨xb, hxb⟩ : ∃ xb : ByteArray, (⟨cs[k].toArray⟩ : ByteArray) = xb := ⟨_, rfl⟩
        have hxs : xb.size ≤ 2 := by rw [← hxb, Lib.size_mk]; exact hx2
        have HX := Lib.hid (show xb.data.toList = cs[k] by rw [← hxb])
        rw [hxb] at hc
        clear hxb hx2
        by_cases hkn : (k : Int) < n
        · have d1 : decide ((k : Int) < n) = true := by simpa using hkn
          have HG := Lib.hid (show (ob ++ xb).data.toList = cutTo cs n (k + 1) by
            rw [hst.out, if_pos hkn, ← HO.out, ← HX.out]; simp)
          go_wp2_with fail
          go_round
          case rel => exact ⟨k + 1, ob ++ xb, by omega, by go_num, rfl, HG⟩
          case measure => simp [intOf]; omega
        · have d1 : decide ((k : Int) < n) = false := by simpa using hkn
          have HG := Lib.hid (show ob.data.toList = cutTo cs n (k + 1) by rw [hst.out, if_neg hkn, ← HO.out])
          go_wp2_with fail
          go_round
          case rel => exact ⟨k + 1, ob, by omega, by go_num, rfl, HG⟩
          case measure => simp [intOf]; omega
      · go_wp2_with fail
        go_ret
        have e : k = cs.length := by omega
        subst e
        refine ⟨?_, b1⟩
        rw [← HE.out, ← HO.out, Lib.mk_data]
        rfl

end Go.Proofs.YtobicfkbpoimnaaDoor
