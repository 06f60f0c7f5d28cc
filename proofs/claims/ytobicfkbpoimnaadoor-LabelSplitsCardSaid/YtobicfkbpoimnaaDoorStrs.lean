/- Slices of texts, and the document's own words on them: what Same, Join and Split of package packhorseref01 answer. -/
import Derived.Test.YtobicfkbpoimnaaDoorRefCut
namespace Go.Proofs.YtobicfkbpoimnaaDoor
open Go.RowKit

/-- A slice reads as these texts. -/
structure StrsP (w : World) (a : Option Addr) (cap : Nat) (ls : List ByteArray) : Prop where
  cap : ls.length ≤ cap
  cell : ls ≠ [] → ∃ b o, a = some ⟨b, o, none⟩ ∧ b < w.heap.size ∧ ∀ j x, ls[j]? = some x → w.cell? ⟨b, o + j, none⟩ = some (.string x)

theorem StrsP.below {w w' : World} {a cap ls} (h : StrsP w a cap ls) (hb : Below w.heap.size w w') : StrsP w' a cap ls := by
  refine ⟨h.cap, fun hne => ?_⟩
  obtain ⟨b, o, e, hlt, hc⟩ := h.cell hne
  exact ⟨b, o, e, Nat.lt_of_lt_of_le hlt hb.size, fun j x hx => (hb.cell (p := ⟨b, o + j, none⟩) hlt).trans (hc j x hx)⟩

def mkS (x : List UInt8) : ByteArray := ⟨x.toArray⟩

theorem strs_of_own {w : World} {base : Nat} {v : Value} {ls : List (List UInt8)} (h : w.ownsRow base 9 1 v ls.length (ls.map strV)) :
    ∃ a cap, v = .slice a ls.length cap ∧ StrsP w a cap (ls.map mkS) := by
  by_cases hne : ls = []
  · subst hne
    obtain ⟨a, cap, rfl⟩ := own_shape h
    exact ⟨a, cap, rfl, by simp, fun h => absurd rfl h⟩
  · have hlt := h.lt
    obtain ⟨g, cap, rfl, h1, h2, h3⟩ := own_strs h hne
    refine ⟨_, cap, rfl, by simpa using h1, fun _ => ⟨g, 0, rfl, (hlt g rfl).2, fun j x hx => ?_⟩⟩
    rw [List.getElem?_map] at hx
    cases e : ls[j]? with
    | none => rw [e] at hx; cases hx
    | some y =>
      rw [e] at hx
      cases hx
      rw [Nat.zero_add]
      exact h3 j y e

set_option maxHeartbeats 2000000 in
/-- Two slices of the same texts are the same. -/
theorem same_any (a1 a2 : Option Addr) (c1 c2 : Nat) (ls : List ByteArray) (w : World) (h1 : StrsP w a1 c1 ls) (h2 : StrsP w a2 c2 ls) (hl : ls.length ≤ 1000000) :
    Calls Tryd.prog 20 #[.slice a1 ls.length c1, .slice a2 ls.length c2] w fun e w' => e = .returned (.bool true) ∧ Below w.heap.size w w' := by
  have H1 := Lib.hid h1
  have H2 := Lib.hid h2
  clear h1 h2
  go_enter Tryd.func20, Tryd.ntmps20
  go_wp2_with fail
  go_loopw [13] (fun i wr => ∃ k : Nat, k ≤ ls.length ∧ i = .int .i64 k ∧ Below w.heap.size w wr) (fun i _ => ls.length - (intOf i).toNat)
  case atStart => exact ⟨0, Nat.zero_le _, rfl, Below.refl _ _⟩
  case round =>
    obtain ⟨k, hk, rfl, hbw⟩ := hrel
    by_cases hlt : k < ls.length
    · have hne : ls ≠ [] := by intro e; subst e; simp at hlt
      obtain ⟨b1, o1, rfl, q1, r1⟩ := H1.out.cell hne
      obtain ⟨b2, o2, rfl, q2, r2⟩ := H2.out.cell hne
      have g1 : wr.cell? ⟨b1, o1 + k, none⟩ = some (.string ls[k]) := (hbw.cell (p := ⟨b1, o1 + k, none⟩) q1).trans (r1 k _ (List.getElem?_eq_getElem hlt))
      have g2 : wr.cell? ⟨b2, o2 + k, none⟩ = some (.string ls[k]) := (hbw.cell (p := ⟨b2, o2 + k, none⟩) q2).trans (r2 k _ (List.getElem?_eq_getElem hlt))
      have p1 := H1.out.cap
      have p2 := H2.out.cap
      generalize ls[k] = x at *
      clear r1 r2 hne
      go_wp2_with fail
      go_region
      go_wp2_with fail
      go_roundw
      case rel => exact ⟨k + 1, by omega, by go_num, hbw.drew⟩
      case measure => simp [intOf]; omega
    · go_wp2_with fail
      go_ret
      exact ⟨rfl, hbw⟩

theorem join_snoc (xs : List (List UInt8)) (x : List UInt8) : Lib.join (xs ++ [x]) [32] = if xs = [] then x else Lib.join xs [32] ++ (32 :: x) := by
  cases xs with
  | nil => simp [Lib.join_one]
  | cons y r =>
    rw [if_neg (by simp), List.cons_append, Lib.join_cons, Lib.join_cons]
    simp [Lib.joinTail]

theorem join_len {xs : List (List UInt8)} (h : ∀ x ∈ xs, x.length ≤ 60) : (Lib.join xs [32]).length ≤ 61 * xs.length := by
  cases xs with
  | nil => simp [Lib.join_nil]
  | cons y r =>
    rw [Lib.join_cons]
    have h1 := h y (by simp)
    have h2 : (Lib.joinTail [32] r).length ≤ 61 * r.length := by
      have hr : ∀ x ∈ r, x.length ≤ 60 := fun x hx => h x (by simp [hx])
      clear h h1
      induction r with
      | nil => simp [Lib.joinTail]
      | cons z q ih =>
        have h3 := hr z (by simp)
        have h4 := ih (fun x hx => hr x (by simp [hx]))
        simp only [Lib.joinTail, List.map_cons, List.flatten_cons, List.length_append, List.length_cons, List.length_nil] at h4 ⊢
        omega
    simp only [List.length_append, List.length_cons]
    omega

/-- The texts, one behind the other, while they are gone through. -/
def joinTo (ls : List ByteArray) (k : Nat) : List UInt8 := Lib.join ((ls.take k).map (·.data.toList)) [32]

theorem joinTo_step (ls : List ByteArray) (k : Nat) (h : k < ls.length) : joinTo ls (k + 1) = if k = 0 then ls[k].data.toList else joinTo ls k ++ (32 :: ls[k].data.toList) := by
  unfold joinTo
  rw [List.take_succ_eq_append_getElem h, List.map_append]
  simp only [List.map_cons, List.map_nil]
  rw [join_snoc]
  by_cases hk : k = 0
  · subst hk; simp
  · rw [if_neg hk, if_neg]
    intro e
    have := congrArg List.length e
    simp only [List.length_map, List.length_take, List.length_nil] at this
    omega

theorem joinTo_len {ls : List ByteArray} (h : ∀ x ∈ ls, x.size ≤ 60) (hl : ls.length ≤ 20) (k : Nat) : (joinTo ls k).length ≤ 1220 := by
  unfold joinTo
  have := join_len (xs := (ls.take k).map (·.data.toList)) (by
    intro x hx
    obtain ⟨y, hy, rfl⟩ := List.mem_map.1 hx
    rw [← Lib.size_eq]
    exact h y (List.mem_of_mem_take hy))
  simp only [List.length_map, List.length_take] at this
  omega

set_option maxHeartbeats 2000000 in
theorem refJoin_any (a : Option Addr) (c : Nat) (ls : List ByteArray) (w : World) (h : StrsP w a c ls) (hl : ls.length ≤ 20) (hx : ∀ x ∈ ls, x.size ≤ 60) :
    Calls Tryd.prog 22 #[.slice a ls.length c] w fun e w' => e = .returned (.string ⟨(Lib.join (ls.map (·.data.toList)) [32]).toArray⟩) ∧ w = w' := by
  have H1 := Lib.hid h
  have HX := Lib.hid hx
  have HLN := Lib.hid (joinTo_len hx hl)
  have HST := Lib.hid (joinTo_step ls)
  have HEND := Lib.hid (show joinTo ls ls.length = Lib.join (ls.map (·.data.toList)) [32] by unfold joinTo; rw [List.take_length])
  clear h hx
  go_enter Tryd.func22, Tryd.ntmps22
  go_wp2_with fail
  go_loop [3, 8] (fun o i => ∃ (k : Nat) (ob : ByteArray), k ≤ ls.length ∧ i = .int .i64 k ∧ o = .string ob ∧ Hid (ob.data.toList = joinTo ls k)) (fun _ i => ls.length - (intOf i).toNat)
  case atStart => exact ⟨0, ⟨#[]⟩, Nat.zero_le _, rfl, rfl, rfl⟩
  case round =>
    obtain ⟨k, ob, hk, rfl, rfl, HO⟩ := hrel
    have hob : ob.size ≤ 1220 := by rw [Lib.size_eq, HO.out]; exact HLN.out k
    by_cases hlt : k < ls.length
    · have hne : ls ≠ [] := by intro e; subst e; simp at hlt
      obtain ⟨b1, o1, rfl, q1, r1⟩ := H1.out.cell hne
      have g1 := r1 k _ (List.getElem?_eq_getElem hlt)
      have p1 := H1.out.cap
      have hxs := HX.out _ (List.getElem_mem hlt)
      have hst := Lib.hid (HST.out k hlt)
      generalize ls[k] = x at *
      clear r1 hne
      by_cases hk0 : k = 0
      · have d0 : ¬ 0 < k := by omega
        have HG := Lib.hid (show (ob ++ x).data.toList = joinTo ls (k + 1) by
          have e : ob.data.toList = [] := by rw [HO.out, hk0]; rfl
          rw [hst.out, if_pos hk0]
          simp [e])
        clear hk0
        go_wp2_with fail
        go_round
        case rel => exact ⟨k + 1, ob ++ x, by omega, by go_num, rfl, HG⟩
        case measure => simp [intOf]; omega
      · have d0 : 0 < k := by omega
        have HG := Lib.hid (show (ob ++ ⟨#[32]⟩ ++ x).data.toList = joinTo ls (k + 1) by
          rw [hst.out, if_neg hk0, ← HO.out]
          simp)
        clear hk0
        go_wp2_with fail
        go_round
        case rel => exact ⟨k + 1, ob ++ ⟨#[32]⟩ ++ x, by omega, by go_num, rfl, HG⟩
        case measure => simp [intOf]; omega
    · go_wp2_with fail
      go_ret
      have e : k = ls.length := by omega
      subst e
      refine ⟨?_, rfl⟩
      rw [← HEND.out, ← HO.out, Lib.mk_data]
      rfl

end Go.Proofs.YtobicfkbpoimnaaDoor
