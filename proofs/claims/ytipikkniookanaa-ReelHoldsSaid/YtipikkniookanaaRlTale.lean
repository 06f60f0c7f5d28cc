/- A tale and its words in memory of the law's own; what the law's begins answers. -/
import Derived.Test.YtipikkniookanaaRlPair
import Derived.Test.YtipikkniookanaaTexts
import Derived.Deep.QuietTactic
import Derived.BigQuiet
namespace Go.Proofs.Ytipikkniookanaa
set_option maxRecDepth 100000
open Go.RowKit

/-- Are these one tale, and so many at least of another one's words? -/
def begB (t : List Nat) (ls : List (List Nat)) (f : List Nat) (ws : List (List Nat)) (least : Nat) : Bool := (t == f) && decide (least ≤ ls.length) && decide (ls.length ≤ ws.length) && (ls == ws.take ls.length)

theorem begB_true {t f : List Nat} {ls ws : List (List Nat)} {least : Nat} (h1 : t = f) (h2 : least ≤ ls.length) (h3 : ls <+: ws) : begB t ls f ws least = true := by
  obtain ⟨r, rfl⟩ := h3
  unfold begB
  rw [List.length_append, List.take_left]
  simp [h1, h2]

set_option maxHeartbeats 4000000 in
theorem begins_any (a : Option Addr) (cap : Nat) (t : List Nat) (wa : Option Addr) (wc : Nat) (ls : List (List Nat)) (f : List Nat) (va : Option Addr) (vc : Nat) (ws : List (List Nat)) (least : Nat) (w : World) (ht : BytesP w a cap t) (hl : LLP w wa wc ls) (hf : Bytes f) (hv : SSP w va vc ws) (hwb : ∀ x ∈ ws, Bytes x) :
    Calls Try.prog 29 #[.slice a t.length cap, .slice wa ls.length wc, .agg #[.string (strB f), .slice va ws.length vc], .int .i64 (least : Int)] w (BoolB (begB t ls f ws least) w) := by
  have bB := (Below.refl w.heap.size w).alloc (Nat.le_refl _) (.cells #[.string (strB f), .slice va ws.length vc] 56)
  have hll := hl.len
  have hvl := hv.len
  have hlc := hl.cap
  have hvc := hv.cap
  have RT := run_text (ht.below bB)
  have f0 : (w.alloc (.cells #[.string (strB f), .slice va ws.length vc] 56)).cell? ⟨w.heap.size, 0, none⟩ = some (.string (strB f)) := by simp only [World.cell?, heap_alloc_new]; rfl
  have f1 : (w.alloc (.cells #[.string (strB f), .slice va ws.length vc] 56)).cell? ⟨w.heap.size, 1, none⟩ = some (.slice va ws.length vc) := by simp only [World.cell?, heap_alloc_new]; rfl
  have HL := Lib.hid hl
  have HV := Lib.hid hv
  have HB := Lib.hid bB
  have hst := str_test ht.byte hf
  have hlB : ∀ x ∈ ls, Bytes x := fun x hx => by
    obtain ⟨j, hj, rfl⟩ := List.mem_iff_getElem.1 hx
    obtain ⟨b, o, _, _, hc⟩ := hl.cell (by intro e; subst e; simp at hj)
    obtain ⟨a', c', _, hB⟩ := hc j _ (List.getElem?_eq_getElem hj)
    exact hB.byte
  have HLB := Lib.hid hlB
  have HWB := Lib.hid hwb
  clear hlB hwb
  go_enter Try.func29, Try.ntmps29
  cases t1 : (t == f) with
  | false =>
    have E := Lib.hid (show begB t ls f ws least = false by unfold begB; rw [t1]; rfl)
    rw [t1] at hst
    clear ht hl hf hv bB
    generalize strB t = st at *
    generalize strB f = sf at *
    go_wp2_with fail
    go_ret
    rw [E.out]
    exact ⟨rfl, HB.out⟩
  | true =>
  rw [t1] at hst
  by_cases t2 : ls.length < least
  · have E := Lib.hid (show begB t ls f ws least = false by unfold begB; rw [t1, decide_eq_false (show ¬ least ≤ ls.length by omega)]; rfl)
    clear ht hl hf hv bB
    generalize strB t = st at *
    generalize strB f = sf at *
    go_wp2_with fail
    go_ret
    rw [E.out]
    exact ⟨rfl, HB.out⟩
  by_cases t3 : ws.length < ls.length
  · have E := Lib.hid (show begB t ls f ws least = false by unfold begB; rw [t1, decide_eq_false (show ¬ ls.length ≤ ws.length by omega)]; simp)
    clear ht hl hf hv bB
    generalize strB t = st at *
    generalize strB f = sf at *
    go_wp2_with fail
    go_ret
    rw [E.out]
    exact ⟨rfl, HB.out⟩
  have h2 : least ≤ ls.length := by omega
  have h3 : ls.length ≤ ws.length := by omega
  have E := Lib.hid (show begB t ls f ws least = (ls == ws.take ls.length) by unfold begB; rw [t1, decide_eq_true h2, decide_eq_true h3]; rfl)
  have F1 := Lib.hid f1
  clear ht hl hf hv
  generalize strB t = st at *
  generalize strB f = sf at *
  generalize hWB : w.alloc (.cells #[.string sf, .slice va ws.length vc] 56) = WB at *
  go_wp2_with fail
  clear hWB
  go_loopw [31] (fun i wr => ∃ (k : Nat), k ≤ ls.length ∧ i = .int .i64 k ∧ Hid (ls.take k = ws.take k) ∧ Hid (Below WB.heap.size WB wr)) (fun i _ => ls.length - (intOf i).toNat)
  case atStart => exact ⟨0, Nat.zero_le _, rfl, Lib.hid rfl, Lib.hid (Below.refl _ _)⟩
  case round =>
    obtain ⟨k, hk, rfl, HT, HW⟩ := hrel
    by_cases hlt : k < ls.length
    · have hne : ls ≠ [] := by intro e; subst e; simp at hlt
      have hkw : k < ws.length := by omega
      have hne2 : ws ≠ [] := by intro e; subst e; simp at hkw
      have hsz : w.heap.size < WB.heap.size := (World.block_lt_of_cell? WB _ F1.out)
      have g0 := (HW.out.cell (p := ⟨w.heap.size, 1, none⟩) hsz).trans F1.out
      have hbw := HB.out.trans (HW.out.mono HB.out.size)
      obtain ⟨b1, o1, rfl, q1, r1⟩ := (HL.out.below hbw).cell hne
      obtain ⟨b2, o2, rfl, q2, r2⟩ := (HV.out.below hbw).cell hne2
      obtain ⟨a', c', g1, gB⟩ := r1 k _ (List.getElem?_eq_getElem hlt)
      have g2 := r2 k _ (List.getElem?_eq_getElem hkw)
      have RT := fun n => run_text (w := wr.drewN n) (gB.below ⟨rfl, rfl, rfl, Nat.le_refl _, fun _ _ => rfl⟩)
      have PN := Lib.hid (fun n => show Below w.heap.size w (wr.drewN n) from ⟨hbw.os, hbw.tape, hbw.output, hbw.size, hbw.block⟩)
      have PW := Lib.hid (fun n => show Below WB.heap.size WB (wr.drewN n) from ⟨HW.out.os, HW.out.tape, HW.out.output, HW.out.size, HW.out.block⟩)
      have hst := str_test gB.byte (HWB.out _ (List.getElem_mem hkw))
      have e1 := List.take_add_one (l := ls) (i := k)
      have e2 := List.take_add_one (l := ws) (i := k)
      rw [List.getElem?_eq_getElem hlt] at e1
      rw [List.getElem?_eq_getElem hkw] at e2
      have E1 := Lib.hid e1
      have E2 := Lib.hid e2
      clear r1 r2 gB hne hne2 HW hbw e1 e2
      cases tt : (ls[k] == ws[k]) with
      | false =>
        have EE := Lib.hid (show (ls == ws.take ls.length) = false by
          rw [beq_eq_false_iff_ne]
          intro e
          have h := congrArg (fun x => x[k]?) e
          simp only [List.getElem?_take, if_pos hlt, List.getElem?_eq_getElem hlt, List.getElem?_eq_getElem hkw, Option.some.injEq] at h
          rw [h] at tt
          simp at tt)
        rw [tt] at hst
        clear E1 E2
        generalize strB ls[k] = tx at *
        generalize strB ws[k] = ty at *
        generalize ls[k].length = nx at *
        go_wp2_with fail
        go_quiet (fail)
        go_wp2_with fail
        go_ret
        rw [E.out, EE.out]
        exact ⟨rfl, PN.out _⟩
      | true =>
        have HT2 := Lib.hid (show ls.take (k + 1) = ws.take (k + 1) by
          rw [E1.out, E2.out, HT.out]
          have := eq_of_beq tt
          rw [this])
        rw [tt] at hst
        clear E1 E2
        generalize strB ls[k] = tx at *
        generalize strB ws[k] = ty at *
        generalize ls[k].length = nx at *
        go_wp2_with fail
        go_quiet (fail)
        go_wp2_with fail
        go_roundw
        case rel => exact ⟨k + 1, by omega, by go_num, HT2, Lib.hid (PW.out _)⟩
        case measure => simp [intOf]; omega
    · have hkl : k = ls.length := by omega
      have EE := Lib.hid (show (ls == ws.take ls.length) = true by
        rw [beq_iff_eq, ← hkl, ← HT.out, hkl, List.take_length])
      go_wp2_with fail
      go_ret
      rw [E.out, EE.out]
      exact ⟨rfl, HB.out.trans (HW.out.mono HB.out.size)⟩

end Go.Proofs.Ytipikkniookanaa
