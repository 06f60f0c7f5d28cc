/- What Number and Text of the document's Scan answer, as one state that is read on. -/
import Derived.Test.YtciijkognhdddaaScRead
namespace Go.Proofs.Ytciijkognhdddaa
set_option maxRecDepth 100000
open Go.RowKit Go.ChangeShapes Go.WideShapes Go.ChangeAt

theorem BytesP.aside {w w' : World} {a : Option Addr} {cap : Nat} {l : List Nat} {g : Nat} (h : BytesP w a cap l) (hg : l ≠ [] → ∀ b o, a = some ⟨b, o, none⟩ → b < g) (hb : But g w w') : BytesP w' a cap l := by
  refine ⟨h.cap, h.len, h.byte, fun hne => ?_⟩
  obtain ⟨b, o, e, hlt, hc⟩ := h.cell hne
  exact ⟨b, o, e, Nat.lt_of_lt_of_le hlt hb.size, fun j x hx => (World.cell?_of_block (a := ⟨b, o + j, none⟩) (hb.block b hlt (Nat.ne_of_lt (hg hne b o e)))).trans (hc j x hx)⟩

/-- A Scan at block g of which this is left. -/
def SnS (w : World) (g : Nat) (s : Sc) : Prop := ∃ a cap l ok, Row w g 55 #[.slice a (List.length l) cap, .bool ok] ∧ BytesP w a cap l ∧ (l ≠ [] → ∀ b o, a = some ⟨b, o, none⟩ → b < g) ∧ s = if ok then some l else none
/-- This is answered, and the Scan is further on. -/
def ScanS (g : Nat) (v : Value) (s : Sc) (w : World) (e : Ending) (w' : World) : Prop := e = .returned v ∧ SnS w' g s ∧ But g w w'

theorem SnS.lt {w : World} {g : Nat} {s : Sc} (h : SnS w g s) : g < w.heap.size := by
  obtain ⟨_, _, _, _, h, _⟩ := h
  exact h.lt
theorem SnS.below {w w' : World} {g : Nat} {s : Sc} (h : SnS w g s) (hb : Below w.heap.size w w') : SnS w' g s := by
  obtain ⟨a, c, l, ok, h1, h2, h3, h4⟩ := h
  exact ⟨a, c, l, ok, h1.below hb, h2.below hb, h3, h4⟩
theorem SnS.other {w w' : World} {g k : Nat} {s : Sc} (h : SnS w g s) (hk : g < k) (hb : But k w w') : SnS w' g s := by
  obtain ⟨a, c, l, ok, h1, h2, h3, h4⟩ := h
  exact ⟨a, c, l, ok, h1.but hb (by omega), h2.aside (fun hn b o e => Nat.lt_trans (h3 hn b o e) hk) hb, h3, h4⟩
theorem SnS.bytes {w : World} {g : Nat} {s : Sc} (h : SnS w g s) : BytesS s := by
  obtain ⟨a, c, l, ok, h1, h2, h3, rfl⟩ := h
  intro b e
  cases ok with
  | false => cases e
  | true => cases e; exact h2.byte

theorem cellsR2 {w : World} {g : Nat} {T : TypeId} {p q : Value} (h : Row w g T #[p, q]) : (w.cell? ⟨g, 0, none⟩ = some p ∧ w.cell? ⟨g, 1, none⟩ = some q) ∧ w.frozen? ⟨g, 0, none⟩ = false ∧ w.frozen? ⟨g, 1, none⟩ = false :=
  ⟨⟨h.cell 0, h.cell 1⟩, h.free 0, h.free 1⟩

/-- Once it is not Ok, nothing is read. -/
theorem scan_bad {w w' : World} {g : Nat} {a : Option Addr} {cap : Nat} {l : List Nat} {ok : Bool} (h1 : Row w g 55 #[.slice a l.length cap, .bool ok]) (h2 : BytesP w a cap l) (h3 : l ≠ [] → ∀ b o, a = some ⟨b, o, none⟩ → b < g) (e : w' = w.setCell ⟨g, 1, none⟩ (.bool false)) : SnS w' g none ∧ But g w w' := by
  subst e
  have b := (But.refl g w).set 1 (.bool false)
  exact ⟨⟨a, cap, l, false, h1.set 1 _, h2.aside h3 b, h3, rfl⟩, b⟩
theorem scan_on {w w' : World} {g : Nat} {a a' : Option Addr} {cap cap' : Nat} {l l' : List Nat} (h1 : Row w g 55 #[.slice a l.length cap, .bool true]) (h2 : BytesP w a' cap' l') (h3 : l' ≠ [] → ∀ b o, a' = some ⟨b, o, none⟩ → b < g) (e : w' = w.setCell ⟨g, 0, none⟩ (.slice a' l'.length cap')) : SnS w' g (some l') ∧ But g w w' := by
  subst e
  have b := (But.refl g w).set 0 (.slice a' l'.length cap')
  exact ⟨⟨a', cap', l', true, h1.set 0 _, h2.aside h3 b, h3, rfl⟩, b⟩

/-- s[i:] of bytes lies in their block. -/
theorem from_block {a : Option Addr} {cap : Nat} {l : List Nat} (hc : l.length ≤ cap) (k : Nat) (hk : k ≤ l.length) :
    ∃ a' c', (∀ W, (Instr.slice 47 (.slice a l.length cap) (some (.int .i64 (k : Int))) none none).run Try.prog W = .ok (.slice a' (l.drop k).length c') W) ∧ (∀ W, BytesP W a cap l → BytesP W a' c' (l.drop k)) ∧ ∀ W g, BytesP W a cap l → (l ≠ [] → ∀ b o, a = some ⟨b, o, none⟩ → b < g) → l.drop k ≠ [] → ∀ b o, a' = some ⟨b, o, none⟩ → b < g := by
  obtain ⟨i0, hi0, hz0, hzs, hzb⟩ := info_parts Try.info5
  refine ⟨if cap = k then a else a.map (·.add k), cap - k, fun W => ?_, fun W h => ⟨by rw [List.length_drop]; omega, by have := h.len; rw [List.length_drop]; omega, fun b hb => h.byte b (List.mem_of_mem_drop hb), fun hne => ?_⟩, fun W g h hg hne b o e => ?_⟩
  · have hz : (Go.sizeOf 5).run Try.prog W = .ok 1 W := by simp [Go.sizeOf, typeInfo, hi0, hzs]
    have h0 : ¬ ((k : Int) < 0) := by omega
    simp [Instr.slice, run_underlying Try.underlying47, Instr.sliceBounds, run_sliceBound, hk]
  · have hlt : k < l.length := by
      rcases Nat.lt_or_ge k l.length with h | h
      · exact h
      · exact absurd (List.drop_eq_nil_of_le h) hne
    obtain ⟨b, o, rfl, hb, hcl⟩ := h.cell (by intro e; subst e; simp at hlt)
    refine ⟨b, o + k, by rw [if_neg (by omega), Option.map_some, Addr.add_lit], hb, fun j x hj => ?_⟩
    rw [Nat.add_assoc]
    exact hcl _ _ (by rw [← List.getElem?_drop]; exact hj)
  · have hlt : k < l.length := by
      rcases Nat.lt_or_ge k l.length with h | h
      · exact h
      · exact absurd (List.drop_eq_nil_of_le h) hne
    have hl : l ≠ [] := by intro e; subst e; simp at hlt
    obtain ⟨b', o', rfl, _, _⟩ := h.cell hl
    rw [if_neg (by omega), Option.map_some, Addr.add_lit] at e
    injection e with e
    injection e with e1 _
    exact e1 ▸ hg hl b' o' rfl

set_option maxRecDepth 100000 in
set_option maxHeartbeats 4000000 in
theorem scan_num (w : World) (g : Nat) (s : Sc) (most : Nat) (h : SnS w g s) (hm : most ≤ 9000000000000000000) :
    Calls Try.prog 41 #[.pointer (some ⟨g, 0, none⟩), .int .u64 (most : Int)] w (ScanS g (.int .i64 ((numS most s).1 : Int)) (numS most s).2 w) := by
  obtain ⟨a, cap, l, ok, h1, h2, h3, rfl⟩ := h
  have C := Lib.hid (refTake_any a cap l most w h2 (by omega))
  obtain ⟨⟨c0, c1⟩, f0, f1⟩ := cellsR2 h1
  have H1 := Lib.hid h1
  have H2 := Lib.hid h2
  have H3 := Lib.hid h3
  clear h1 h2 h3
  cases ok with
  | false =>
    have HE := Lib.hid (show numS most (if false = true then some l else none) = (0, none) from rfl)
    generalize numAt most 0 0 l = r at *
    rw [HE.out]
    clear HE
    go_enter Try.func41, Try.ntmps41
    go_wp2_with fail
    refine C.out.mono ?_
    rintro e w' ⟨rfl, rfl⟩
    go_wp2_with fail
    go_ret
    obtain ⟨q1, q2⟩ := scan_bad H1.out H2.out H3.out rfl
    exact ⟨rfl, q1, q2⟩
  | true =>
    show Calls Try.prog _ _ w (ScanS g (.int .i64 ((numS most (some l)).1 : Int)) (numS most (some l)).2 w)
    rcases numAt_errs most l 0 0 with hN | hN | ⟨v, k, hN, hk0, hkl⟩
    · have hq : numS most (some l) = (0, none) := by simp [numS, hN]
      rw [hN] at C
      rw [hq]
      clear hq hN
      have C : Hid (Calls Try.prog 56 #[.slice a l.length cap, .int .u64 (most : Int)] w fun e w' => e = .returned (.tuple #[.int .u64 0, .int .i64 (0)]) ∧ w = w') := C
      go_enter Try.func41, Try.ntmps41
      go_wp2_with fail
      refine C.out.mono ?_
      rintro e w' ⟨rfl, rfl⟩
      go_wp2_with fail
      go_ret
      obtain ⟨q1, q2⟩ := scan_bad H1.out H2.out H3.out rfl
      exact ⟨rfl, q1, q2⟩
    · have hq : numS most (some l) = (0, none) := by simp [numS, hN]
      rw [hN] at C
      rw [hq]
      clear hq hN
      have C : Hid (Calls Try.prog 56 #[.slice a l.length cap, .int .u64 (most : Int)] w fun e w' => e = .returned (.tuple #[.int .u64 0, .int .i64 (-1)]) ∧ w = w') := C
      go_enter Try.func41, Try.ntmps41
      go_wp2_with fail
      refine C.out.mono ?_
      rintro e w' ⟨rfl, rfl⟩
      go_wp2_with fail
      go_ret
      obtain ⟨q1, q2⟩ := scan_bad H1.out H2.out H3.out rfl
      exact ⟨rfl, q1, q2⟩
    · have hq : numS most (some l) = (v, some (l.drop k)) := by simp [numS, hN]
      have hv : v ≤ most := by
        obtain ⟨_, _, _, _, _, h, _⟩ := numAt_alone most l 0 0 v k H2.out.byte (Nat.zero_le _) hN
        exact h
      rw [hN] at C
      rw [hq]
      clear hq hN
      obtain ⟨a', c', k1, k2, k3⟩ := from_block (a := a) H2.out.cap k (by omega)
      have K2 := Lib.hid (k2 w H2.out)
      have K3 := Lib.hid (k3 w g H2.out H3.out)
      clear k2 k3
      have ev : IntKind.i64.wrap (v : Int) = (v : Int) := by rw [IntKind.wrap_i64]; omega
      have C : Hid (Calls Try.prog 56 #[.slice a l.length cap, .int .u64 (most : Int)] w fun e w' => e = .returned (.tuple #[.int .u64 (v : Int), .int .i64 (k : Int)]) ∧ w = w') := C
      have hk : ¬ k = 0 := by omega
      have hk2 : decide ((k : Int) ≤ 0) = false := by simp; omega
      generalize l.drop k = d at *
      go_enter Try.func41, Try.ntmps41
      go_wp2_with fail
      refine C.out.mono ?_
      rintro e w' ⟨rfl, rfl⟩
      go_wp2_with fail
      go_ret
      obtain ⟨q1, q2⟩ := scan_on H1.out K2.out K3.out rfl
      exact ⟨rfl, q1, q2⟩

set_option maxRecDepth 100000 in
set_option maxHeartbeats 4000000 in
theorem scan_text (w : World) (g : Nat) (s : Sc) (most : Nat) (h : SnS w g s) (hm : most ≤ 9000000000000000000) :
    Calls Try.prog 42 #[.pointer (some ⟨g, 0, none⟩), .int .u64 (most : Int)] w (ScanS g (.string (strB (textS most s).1)) (textS most s).2 w) := by
  have C := Lib.hid (scan_num w g s most h hm)
  have HT := Lib.hid (textS_eq most s)
  have hn := numS_le most s h.bytes
  generalize textS most s = t at *
  rcases hq : numS most s with ⟨n, s1⟩
  rw [hq] at C HT hn
  dsimp only at hn
  clear hq h
  go_enter Try.func42, Try.ntmps42
  go_wp2_with fail
  refine C.out.mono ?_
  rintro e w1 ⟨rfl, q1, b1⟩
  obtain ⟨a, cap, l, ok, h1, h2, h3, e1⟩ := q1
  obtain ⟨⟨c0, c1⟩, f0, f1⟩ := cellsR2 h1
  have H1 := Lib.hid h1
  have H2 := Lib.hid h2
  have H3 := Lib.hid h3
  have B1 := Lib.hid b1
  have hll := h2.len
  clear h1 h2 h3 b1 C
  cases ok with
  | false =>
    have HE := Lib.hid (show t = ([], none) by rw [HT.out, e1]; rfl)
    clear e1
    go_wp2_with fail
    go_ret
    obtain ⟨q1, q2⟩ := scan_bad H1.out H2.out H3.out rfl
    exact ⟨by rw [HE.out]; rfl, by rw [HE.out]; exact q1, B1.out.trans q2⟩
  | true =>
    by_cases hf : l.length < n
    · have HE := Lib.hid (show t = ([], none) by rw [HT.out, e1]; simp only [if_true]; rw [if_pos hf])
      clear e1
      go_wp2_with fail
      go_ret
      obtain ⟨q1, q2⟩ := scan_bad H1.out H2.out H3.out rfl
      exact ⟨by rw [HE.out]; rfl, by rw [HE.out]; exact q1, B1.out.trans q2⟩
    · have HE := Lib.hid (show t = (l.take n, some (l.drop n)) by rw [HT.out, e1]; simp only [if_true]; rw [if_neg hf])
      have hnl : n ≤ l.length := by omega
      clear e1
      obtain ⟨a2, p2, t1, t2⟩ := slice_to (a := a) H2.out.cap n (n : Int) rfl hnl
      have ht := run_text (t2 w1 H2.out)
      obtain ⟨a', c', k1, k2, k3⟩ := from_block (a := a) H2.out.cap n hnl
      have K2 := Lib.hid (k2 w1 H2.out)
      have K3 := Lib.hid (k3 w1 g H2.out H3.out)
      clear t2 k2 k3
      generalize l.drop n = d at *
      generalize l.take n = y at *
      go_wp2_with fail
      go_ret
      obtain ⟨q1, q2⟩ := scan_on H1.out K2.out K3.out rfl
      exact ⟨by rw [HE.out]; rfl, by rw [HE.out]; exact q1, B1.out.trans q2⟩

end Go.Proofs.Ytciijkognhdddaa
