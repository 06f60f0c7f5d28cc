/- Batches. -/
import Derived.Test.YtfmpibmhhfmajaaGreatDoorMgLines
import Derived.Test.YtfmpibmhhfmajaaGreatDoorMgBase
namespace Go.Proofs.YtfmpibmhhfmajaaGreatDoor
/- TkPlain: Ticks, and numbers above nought. -/
section
def tickB (n : Int) : Bool := decide (0 ≤ n ∧ n ≤ 1099511627776)
def aboveB (n : Int) : Bool := decide (1 ≤ n ∧ n ≤ 1000000000000)
theorem tickB_iff (n : Int) : tickB n = true ↔ 0 ≤ n ∧ n ≤ 1099511627776 := by simp [tickB]
theorem aboveB_iff (n : Int) : aboveB n = true ↔ 1 ≤ n ∧ n ≤ 1000000000000 := by simp [aboveB]
end

/- TlSum: Sums and differences of tallies: what Sum of two, Add and Less of package tally answer. -/
section
set_option maxRecDepth 100000
open Go.RowKit

end

/- BtPlain: Plain facts on batches: which can be, who joins and is evicted, their bytes, and what bytes are read as. -/
section
/-- A batch. -/
structure Bt where
  id : Int
  wt : Int
  born : Int
  kind : Int
  phase : Int
  car : ByteArray
  zone : ByteArray
  serv : ByteArray
  mem : List ByteArray

/-- Caps. -/
structure Cp where
  count : Int
  wt : Int

def capsB (c : Cp) : Bool := decide (1 ≤ c.count ∧ c.count ≤ 64) && aboveB c.wt
/-- The members l, behind those of pre. -/
def goodM (pre : List ByteArray) : List ByteArray → Bool
  | [] => true
  | x :: r => rightT x && !hasT pre x && goodM (pre ++ [x]) r
def membersB (l : List ByteArray) : Bool := decide (l.length ≤ 64) && goodM [] l
def kindB (n : Int) : Bool := decide (n = 1 ∨ n = 2)
def btPhaseB (n : Int) : Bool := decide (1 ≤ n ∧ n ≤ 3)
def rightBt (b : Bt) : Bool := aboveB b.id && (tallyB b.wt && (tickB b.born && (kindB b.kind && (btPhaseB b.phase && (groupB b.car b.zone b.serv && membersB b.mem)))))

theorem goodM_iff : ∀ (l pre : List ByteArray), goodM pre l = true ↔ (∀ x ∈ l, rightT x = true ∧ x ∉ pre) ∧ l.Nodup
  | [], pre => by simp [goodM]
  | x :: r, pre => by
    have ih := goodM_iff r (pre ++ [x])
    simp only [goodM, Bool.and_eq_true, ih, Bool.not_eq_true', hasT_no, List.mem_append, List.not_mem_nil, or_false, not_or, List.nodup_cons, List.mem_cons, forall_eq_or_imp]
    constructor
    · rintro ⟨⟨h1, h2⟩, h3, h4⟩
      exact ⟨⟨⟨h1, h2⟩, fun y hy => ⟨(h3 y hy).1, (h3 y hy).2.1⟩⟩, fun hx => (h3 x hx).2.2 rfl, h4⟩
    · rintro ⟨⟨⟨h1, h2⟩, h3⟩, h4, h5⟩
      exact ⟨⟨h1, h2⟩, fun y hy => ⟨(h3 y hy).1, (h3 y hy).2, fun e => h4 (e ▸ hy)⟩, h5⟩

theorem membersB_iff (l : List ByteArray) : membersB l = true ↔ l.length ≤ 64 ∧ (∀ x ∈ l, rightT x = true) ∧ l.Nodup := by
  simp only [membersB, Bool.and_eq_true, decide_eq_true_eq, goodM_iff, List.not_mem_nil, not_false_eq_true, and_true]

theorem goodM_step (l : List ByteArray) (k : Nat) (h : k < l.length) : goodM (l.take k) (l.drop k) = (rightT l[k] && !hasT (l.take k) l[k] && goodM (l.take (k + 1)) (l.drop (k + 1))) := by
  rw [List.drop_eq_getElem_cons h, goodM, List.take_succ_eq_append_getElem h]

theorem rightBt_of {b : Bt} (h : rightBt b = true) : (1 ≤ b.id ∧ b.id ≤ 1000000000000) ∧ (0 ≤ b.wt ∧ b.wt ≤ 1000000000000) ∧ (0 ≤ b.born ∧ b.born ≤ 1099511627776) ∧ (b.kind = 1 ∨ b.kind = 2) ∧ (1 ≤ b.phase ∧ b.phase ≤ 3) ∧ groupB b.car b.zone b.serv = true ∧ b.mem.length ≤ 64 ∧ (∀ x ∈ b.mem, rightT x = true) ∧ b.mem.Nodup := by
  simp only [rightBt, Bool.and_eq_true, aboveB, tallyB, tickB, kindB, btPhaseB, decide_eq_true_eq, membersB_iff] at h
  exact ⟨h.1, h.2.1, h.2.2.1, h.2.2.2.1, h.2.2.2.2.1, h.2.2.2.2.2.1, h.2.2.2.2.2.2⟩
def sameG (a b c x y z : ByteArray) : Bool := (a.toList == x.toList) && ((b.toList == y.toList) && (c.toList == z.toList))
def sameBt (x y : Bt) : Bool := (x.id == y.id) && ((x.wt == y.wt) && ((x.born == y.born) && ((x.kind == y.kind) && ((x.phase == y.phase) && (sameG x.car x.zone x.serv y.car y.zone y.serv && sameT x.mem y.mem)))))
theorem sameBt_iff (x y : Bt) : sameBt x y = true ↔ x = y := by
  cases x; cases y
  simp only [sameBt, sameG, Bool.and_eq_true, beq_iff_eq, sameT_iff, Bt.mk.injEq]
  have e : ∀ a b : ByteArray, a.toList = b.toList ↔ a = b := fun a b => by rw [← toList_iff, beq_iff_eq]
  simp only [e]
  constructor
  · rintro ⟨h1, h2, h3, h4, h5, ⟨h6, h7, h8⟩, h9⟩; exact ⟨h1, h2, h3, h4, h5, h6, h7, h8, h9⟩
  · rintro ⟨h1, h2, h3, h4, h5, h6, h7, h8, h9⟩; exact ⟨h1, h2, h3, h4, h5, ⟨h6, h7, h8⟩, h9⟩
/-- A batch's bytes. -/
def batchL (b : Bt) : List Nat :=
  numL b.id.toNat ++ (numL b.kind.toNat ++ (numL b.phase.toNat ++ (numL b.wt.toNat ++ (numL b.born.toNat ++ (textL b.car ++ (textL b.zone ++ (textL b.serv ++ (numL b.mem.length ++ textsL b.mem))))))))

def textsS : Nat → Sc → List ByteArray × Sc
  | 0, s => ([], s)
  | n + 1, s => (strB (textS 32 s).1 :: (textsS n (textS 32 s).2).1, (textsS n (textS 32 s).2).2)

def takeB (s : Sc) : Bt × Sc :=
  let i := numS 1000000000000 s
  let k := numS 2 i.2
  let p := numS 3 k.2
  let t := numS 1000000000000 p.2
  let f := numS 1099511627776 t.2
  let g := groupS f.2
  let n := numS 64 g.2
  let m := textsS n.1 n.2
  (⟨(i.1 : Int), (t.1 : Int), (f.1 : Int), (k.1 : Int), (p.1 : Int), strB g.1.1, strB g.1.2.1, strB g.1.2.2, m.1⟩, m.2)

/-- The batch that stands next; none, if there is none. -/
def takeBV (s : Sc) : Option Bt := if (takeB s).2.isSome && rightBt (takeB s).1 then some (takeB s).1 else none
def noBt : Bt := ⟨0, 0, 0, 0, 0, ⟨#[]⟩, ⟨#[]⟩, ⟨#[]⟩, []⟩
def takeBO (s : Sc) : Bt := (takeBV s).getD noBt

theorem textsL_cons (x : ByteArray) (l : List ByteArray) : textsL (x :: l) = textL x ++ textsL l := by simp [textsL]
theorem textsS_put : ∀ (l : List ByteArray) (_ : ∀ x ∈ l, x.size ≤ 32) (r : List Nat), textsS l.length (some (textsL l ++ r)) = (l, some r)
  | [], _, r => by simp [textsS, textsL]
  | x :: l, h, r => by
    rw [textsL_cons, List.append_assoc, List.length_cons, textsS, textS_put (h x (by simp))]
    simp only [strB_strL]
    rw [textsS_put l (fun y hy => h y (by simp [hy])) r]

theorem groupS_put {a b c : ByteArray} (ha : a.size ≤ 32) (hb : b.size ≤ 32) (hc : c.size ≤ 32) (r : List Nat) : groupS (some (textL a ++ (textL b ++ (textL c ++ r)))) = ((strL a, strL b, strL c), some r) := by
  unfold groupS
  rw [textS_put ha]
  simp only
  rw [textS_put hb]
  simp only
  rw [textS_put hc]

/-- What is written is read. -/
theorem takeB_put {b : Bt} (h : rightBt b = true) (r : List Nat) : takeB (some (batchL b ++ r)) = (b, some r) := by
  obtain ⟨r1, r2, r3, r4, r5, r6, r7, r8, r9⟩ := rightBt_of h
  obtain ⟨g1, g2, g3⟩ := groupB_of r6
  unfold takeB batchL
  simp only [List.append_assoc]
  rw [numS_put (by omega)]
  simp only
  rw [numS_put (by omega)]
  simp only
  rw [numS_put (by omega)]
  simp only
  rw [numS_put (by omega)]
  simp only
  rw [numS_put (by omega)]
  simp only
  rw [groupS_put (right_32 g1) (right_32 g2) (right_32 g3)]
  simp only
  rw [numS_put (by omega)]
  simp only
  rw [textsS_put _ (fun x hx => right_32 (r8 x hx))]
  simp only [strB_strL]
  rw [Int.toNat_of_nonneg (by omega), Int.toNat_of_nonneg (by omega), Int.toNat_of_nonneg (by omega), Int.toNat_of_nonneg (by omega), Int.toNat_of_nonneg (by omega)]

theorem textsS_len : ∀ (n : Nat) (s : Sc), (textsS n s).1.length = n
  | 0, _ => rfl
  | n + 1, s => by rw [textsS]; simp [textsS_len n]
theorem textsS_back : ∀ (n : Nat) {s : Sc} (_ : BytesS s) {r : List Nat} (_ : (textsS n s).2 = some r), s = some (textsL (textsS n s).1 ++ r)
  | 0, s, _, r, e => by simpa [textsS, textsL] using e
  | n + 1, s, h, r, e => by
    rw [textsS] at e ⊢
    simp only at e ⊢
    have e2 := textsS_back n (textS_bytes h 32).1 e
    have e1 := textS_back h e2
    rw [textsL_cons, List.append_assoc]
    exact e1
theorem textsS_size : ∀ (n : Nat) {s : Sc} (_ : BytesS s), ∀ x ∈ (textsS n s).1, x.size ≤ 32
  | 0, _, _, x, hx => by simp [textsS] at hx
  | n + 1, s, h, x, hx => by
    rw [textsS] at hx
    rcases List.mem_cons.1 hx with rfl | hx
    · rw [strB_size]; exact textS_le 32 h
    · exact textsS_size n (textS_bytes h 32).1 x hx
theorem groupS_bytes {s : Sc} (h : BytesS s) : BytesS (groupS s).2 := (textS_bytes (textS_bytes (textS_bytes h 32).1 32).1 32).1
theorem groupS_back {s : Sc} (h : BytesS s) {r : List Nat} (e : (groupS s).2 = some r) : s = some (textL (strB (groupS s).1.1) ++ (textL (strB (groupS s).1.2.1) ++ (textL (strB (groupS s).1.2.2) ++ r))) := by
  have b1 := (textS_bytes h 32).1
  have b2 := (textS_bytes b1 32).1
  have e3 := textS_back b2 (m := 32) (r := r) e
  have e2 := textS_back b1 (m := 32) e3
  have e1 := textS_back h (m := 32) e2
  exact e1

theorem takeB_back {s : Sc} (h : BytesS s) {r : List Nat} (e : (takeB s).2 = some r) : s = some (batchL (takeB s).1 ++ r) := by
  unfold takeB at e ⊢
  simp only at e ⊢
  have b1 := numS_bytes h 1000000000000
  generalize hi : numS 1000000000000 s = i at *
  have b2 := numS_bytes b1 2
  generalize hk : numS 2 i.2 = k at *
  have b3 := numS_bytes b2 3
  generalize hp : numS 3 k.2 = p at *
  have b4 := numS_bytes b3 1000000000000
  generalize ht : numS 1000000000000 p.2 = t at *
  have b5 := numS_bytes b4 1099511627776
  generalize hf : numS 1099511627776 t.2 = f at *
  have b6 := groupS_bytes b5
  generalize hg : groupS f.2 = g at *
  have b7 := numS_bytes b6 64
  generalize hn : numS 64 g.2 = n at *
  have n8 := textsS_len n.1 n.2
  have e8 := textsS_back n.1 b7 e
  generalize hm : textsS n.1 n.2 = m at *
  have e7 := numS_back b6 (m := 64) (by rw [hn]; exact e8)
  rw [hn] at e7
  have e6 := groupS_back b5 (by rw [hg]; exact e7)
  rw [hg] at e6
  have e5 := numS_back b4 (m := 1099511627776) (by rw [hf]; exact e6)
  rw [hf] at e5
  have e4 := numS_back b3 (m := 1000000000000) (by rw [ht]; exact e5)
  rw [ht] at e4
  have e3 := numS_back b2 (m := 3) (by rw [hp]; exact e4)
  rw [hp] at e3
  have e2 := numS_back b1 (m := 2) (by rw [hk]; exact e3)
  rw [hk] at e2
  have e1 := numS_back h (m := 1000000000000) (by rw [hi]; exact e2)
  rw [hi] at e1
  unfold batchL
  simp only [Int.toNat_natCast, List.append_assoc, n8]
  exact e1

theorem takeBV_put {b : Bt} (h : rightBt b = true) (r : List Nat) : takeBV (some (batchL b ++ r)) = some b := by
  unfold takeBV
  rw [takeB_put h]
  simp [h]

theorem takeBV_some {s : Sc} {b : Bt} (h : takeBV s = some b) : ∃ r, takeB s = (b, some r) ∧ rightBt b = true := by
  unfold takeBV at h
  split at h
  · rename_i h1
    simp only [Bool.and_eq_true] at h1
    obtain ⟨r, hr⟩ := Option.isSome_iff_exists.1 h1.1
    cases h
    exact ⟨r, by rw [← hr], h1.2⟩
  · cases h

theorem batchL_bytes (b : Bt) : Bytes (batchL b) := by
  unfold batchL
  repeat' (first | exact textL_bytes _ | exact numL_bytes _ | exact textsL_bytes _ | apply bytes_app)

end

/- BtLeaf: What the small tests of package batch, and the document's, answer: texts among texts, texts in a row, numbers, groups, members, caps. -/
section
set_option maxRecDepth 100000
open Go.RowKit

/-- The place of the first text that is x, from k on; -1, if there is none. -/
def findK (k : Nat) (x : ByteArray) : List ByteArray → Int
  | [] => -1
  | y :: r => if x.toList == y.toList then (k : Int) else findK (k + 1) x r
theorem findK_has : ∀ (l : List ByteArray) (k : Nat) (x : ByteArray), (hasT l x = true ∧ ∃ j : Nat, findK k x l = ((k + j : Nat) : Int) ∧ l[j]? = some x) ∨ (hasT l x = false ∧ findK k x l = -1)
  | [], k, x => .inr ⟨rfl, rfl⟩
  | y :: r, k, x => by
    by_cases e : x = y
    · refine .inl ⟨(hasT_iff _ _).2 (by simp [e]), 0, ?_, by simp [e]⟩
      rw [findK, str_eq e]
      simp
    · have e1 : findK k x (y :: r) = findK (k + 1) x r := by rw [findK, str_ne e]; rfl
      rw [e1]
      rcases findK_has r (k + 1) x with ⟨h1, j, h2, h3⟩ | ⟨h1, h2⟩
      · exact .inl ⟨(hasT_iff _ _).2 (by simp [(hasT_iff _ _).1 h1]), j + 1, by rw [h2]; congr 1; omega, by simpa using h3⟩
      · exact .inr ⟨(hasT_no _ _).2 (by have := (hasT_no _ _).1 h1; simp [e, this]), h2⟩
theorem findK_step (l : List ByteArray) (k : Nat) (x : ByteArray) (h : k < l.length) : findK k x (l.drop k) = if x.toList == l[k].toList then (k : Int) else findK (k + 1) x (l.drop (k + 1)) := by
  rw [List.drop_eq_getElem_cons h, findK]

/-- A number is answered; the world is as it was. -/
def IntSame (n : Int) (w : World) (e : Ending) (w' : World) : Prop := e = .returned (.int .i64 n) ∧ w = w'

set_option maxHeartbeats 2000000 in
theorem index_any (a : Option Addr) (cap : Nat) (l : List ByteArray) (x : ByteArray) (w : World) (h : StrsP w a cap l) :
    Calls Tryz.prog 158 #[.slice a l.length cap, .string x] w (IntSame (findK 0 x l) w) := by
  have H := Lib.hid h
  have hl := h.len
  clear h
  go_enter Tryz.func158, Tryz.ntmps158
  go_wp2_with fail
  go_loop [8] (fun i => ∃ k : Nat, k ≤ l.length ∧ i = .int .i64 k ∧ Hid (findK 0 x l = findK k x (l.drop k))) (fun i => l.length - (intOf i).toNat)
  case atStart => exact ⟨0, Nat.zero_le _, rfl, Lib.hid rfl⟩
  case round =>
    obtain ⟨k, hk, rfl, HK⟩ := hrel
    by_cases hlt : k < l.length
    · obtain ⟨b, o, rfl, q1, c1⟩ := H.out.at k hlt
      have p1 := H.out.cap
      have HS := Lib.hid (findK_step l k x hlt)
      generalize l[k] = y at *
      cases hb : (x.toList == y.toList) with
      | true =>
        have HE := Lib.hid (show findK 0 x l = (k : Int) by rw [HK.out, HS.out, hb]; rfl)
        go_wp2_with fail
        go_ret
        exact ⟨by rw [HE.out]; rfl, rfl⟩
      | false =>
        have HE := Lib.hid (show findK 0 x l = findK (k + 1) x (l.drop (k + 1)) by rw [HK.out, HS.out, hb]; rfl)
        go_wp2_with fail
        go_round
        case rel => exact ⟨k + 1, by omega, by go_num, HE⟩
        case measure => simp [intOf]; omega
    · have HE := Lib.hid (show findK 0 x l = -1 by rw [HK.out, List.drop_eq_nil_of_le (by omega)]; rfl)
      go_wp2_with fail
      go_ret
      exact ⟨by rw [HE.out]; rfl, rfl⟩

set_option maxHeartbeats 1000000 in
theorem contains_any (a : Option Addr) (cap : Nat) (l : List ByteArray) (x : ByteArray) (w : World) (h : StrsP w a cap l) :
    Calls Tryz.prog 127 #[.slice a l.length cap, .string x] w (BoolSame (hasT l x) w) := by
  have C := Lib.hid (index_any a cap l x w h)
  have HB := Lib.hid (show hasT l x = decide (0 ≤ findK 0 x l) by
    rcases findK_has l 0 x with ⟨h1, j, h2, _⟩ | ⟨h1, h2⟩
    · rw [h1, h2]; simp
    · rw [h1, h2]; rfl)
  go_enter Tryz.func127, Tryz.ntmps127
  go_wp2_with fail
  refine C.out.mono ?_
  rintro e w1 ⟨rfl, rfl⟩
  generalize findK 0 x l = n at *
  go_wp2_with fail
  go_ret
  exact ⟨by rw [HB.out]; rfl, rfl⟩

set_option maxHeartbeats 2000000 in
theorem equalT_any (a1 a2 : Option Addr) (c1 c2 : Nat) (l m : List ByteArray) (w : World) (h1 : StrsP w a1 c1 l) (h2 : StrsP w a2 c2 m) :
    Calls Tryz.prog 142 #[.slice a1 l.length c1, .slice a2 m.length c2] w (Tell (sameT l m) w) := by
  have H1 := Lib.hid h1
  have H2 := Lib.hid h2
  have hl := h1.len
  clear h1 h2
  by_cases hq : l.length = m.length
  rotate_left
  · have HE := Lib.hid (show sameT l m = false from sameT_len hq)
    go_enter Tryz.func142, Tryz.ntmps142
    go_wp2_with fail
    go_ret
    exact ⟨by rw [HE.out]; rfl, Below.refl _ _⟩
  · have HQ := Lib.hid hq
    rw [← hq]
    clear hq
    go_enter Tryz.func142, Tryz.ntmps142
    go_wp2_with fail
    go_loopw [13] (fun i wr => ∃ k : Nat, k ≤ l.length ∧ i = .int .i64 k ∧ Hid (sameT l m = sameT (l.drop k) (m.drop k)) ∧ Below w.heap.size w wr) (fun i _ => l.length - (intOf i).toNat)
    case atStart => exact ⟨0, Nat.zero_le _, rfl, Lib.hid rfl, Below.refl _ _⟩
    case round =>
      obtain ⟨k, hk, rfl, HK, hbw⟩ := hrel
      by_cases hlt : k < l.length
      · have hltm : k < m.length := by rw [← HQ.out]; exact hlt
        obtain ⟨b1, o1, rfl, q1, r1⟩ := (H1.out.below hbw).at k hlt
        obtain ⟨b2, o2, rfl, q2, s1⟩ := (H2.out.below hbw).at k hltm
        have p1 := H1.out.cap
        have p2 := H2.out.cap
        rw [← HQ.out] at p2
        have HS := Lib.hid (sameT_step l m k hlt hltm)
        generalize l[k] = x at *
        generalize m[k] = y at *
        cases hb : (x.toList == y.toList) with
        | true =>
          have HE := Lib.hid (show sameT l m = sameT (l.drop (k + 1)) (m.drop (k + 1)) by rw [HK.out, HS.out, hb]; rfl)
          go_wp2_with fail
          go_quiet (fail)
          go_wp2_with fail
          go_roundw
          case rel => exact ⟨k + 1, by omega, by go_num, HE, below_drewN hbw _⟩
          case measure => simp [intOf]; omega
        | false =>
          have HE := Lib.hid (show sameT l m = false by rw [HK.out, HS.out, hb]; rfl)
          go_wp2_with fail
          go_quiet (fail)
          go_wp2_with fail
          go_ret
          exact ⟨by rw [HE.out]; rfl, below_drewN hbw _⟩
      · have HE := Lib.hid (same_rest HQ.out hlt HK.out)
        go_wp2_with fail
        go_ret
        exact ⟨by rw [HE.out]; rfl, hbw⟩

set_option maxHeartbeats 1000000 in
theorem tick_any (n : Int) (w : World) : Calls Tryz.prog 81 #[.int .i64 n] w (BoolSame (tickB n) w) := by
  have HE := Lib.hid (show tickB n = (decide (0 ≤ n) && decide (n ≤ 1099511627776)) by rw [Bool.eq_iff_iff]; simp [tickB])
  cases h1 : decide (0 ≤ n) <;> cases h2 : decide (n ≤ 1099511627776)
  all_goals
    rw [h1, h2] at HE
    go_enter Tryz.func81, Tryz.ntmps81
    go_wp2_with fail
    go_ret
    exact ⟨by rw [HE.out]; rfl, rfl⟩
set_option maxHeartbeats 1000000 in
theorem above_any (n : Int) (w : World) : Calls Tryz.prog 120 #[.int .i64 n] w (BoolSame (aboveB n) w) := by
  have HE := Lib.hid (show aboveB n = (decide (0 < n) && tallyB n) by rw [Bool.eq_iff_iff]; simp [aboveB, tallyB]; omega)
  have C := Lib.hid (tally_any n w)
  cases h1 : decide (0 < n) <;> cases h2 : tallyB n
  all_goals
    rw [h1, h2] at HE
    rw [h2] at C
    clear h2
    go_enter Tryz.func120, Tryz.ntmps120
    go_wp2_with (go_at_call 38; refine C.out.mono ?_; rintro e w' ⟨rfl, rfl⟩)
    go_ret
    exact ⟨by rw [HE.out]; rfl, rfl⟩

/-- Caps as a value. -/
def cpV (c : Cp) : Value := .agg #[.int .i64 c.count, .int .i64 c.wt]

set_option maxHeartbeats 1000000 in
theorem caps_any (c : Cp) (w : World) : Calls Tryz.prog 78 #[cpV c] w (Tell (capsB c) w) := by
  have HE := Lib.hid (show capsB c = (decide (1 ≤ c.count) && (decide (c.count ≤ 64) && aboveB c.wt)) by rw [Bool.eq_iff_iff]; simp [capsB, and_assoc])
  have C := Lib.hid (fun w => above_any c.wt w)
  unfold cpV
  generalize c.count = n at *
  generalize c.wt = t at *
  cases h1 : decide (1 ≤ n) <;> cases h2 : decide (n ≤ 64) <;> cases h3 : aboveB t
  all_goals
    rw [h1, h2, h3] at HE
    rw [h3] at C
    clear h3
    go_enter Tryz.func78, Tryz.ntmps78
    go_wp2_with (go_at_call 120; refine (C.out _).mono ?_; rintro e w' ⟨rfl, rfl⟩)
    go_ret
    exact ⟨by rw [HE.out]; rfl, (Below.refl _ w).alloc (Nat.le_refl _) _⟩
end

/- BtMem: A batch in memory; what isGroup, areMembers and Right of package batch answer. -/
section
set_option maxRecDepth 100000
open Go.RowKit

/-- A batch as a value, its members in a slice. -/
def btV (a : Option Addr) (cap : Nat) (b : Bt) : Value := .agg #[.int .i64 b.id, .int .i64 b.wt, .int .i64 b.born, .int .i64 b.kind, .int .i64 b.phase, .string b.car, .string b.zone, .string b.serv, .slice a b.mem.length cap]
/-- A batch's cells. -/
def btC (a : Option Addr) (cap : Nat) (b : Bt) : Array Value := #[.int .i64 b.id, .int .i64 b.wt, .int .i64 b.born, .int .i64 b.kind, .int .i64 b.phase, .string b.car, .string b.zone, .string b.serv, .slice a b.mem.length cap]

/-- Its members lie there; its texts fit. -/
structure BtP (w : World) (a : Option Addr) (cap : Nat) (b : Bt) : Prop where
  mem : StrsP w a cap b.mem
  fit : ∀ x ∈ b.mem, x.size ≤ maxLen
  car : b.car.size ≤ maxLen
  zone : b.zone.size ≤ maxLen
  serv : b.serv.size ≤ maxLen

theorem BtP.below {w w' : World} {a : Option Addr} {cap : Nat} {b : Bt} (h : BtP w a cap b) (hb : Below w.heap.size w w') : BtP w' a cap b := ⟨h.mem.below hb, h.fit, h.car, h.zone, h.serv⟩

/-- A batch in a block. -/
def BtB (w : World) (g : Nat) (a : Option Addr) (cap : Nat) (b : Bt) : Prop := w.heap[g]? = some (.cells (btC a cap b) 98 (0, 0))
theorem BtB.cells {w : World} {g : Nat} {a : Option Addr} {cap : Nat} {b : Bt} (h : BtB w g a cap b) :
    (w.cell? ⟨g, 0, none⟩ = some (.int .i64 b.id) ∧ w.cell? ⟨g, 1, none⟩ = some (.int .i64 b.wt) ∧ w.cell? ⟨g, 2, none⟩ = some (.int .i64 b.born) ∧ w.cell? ⟨g, 3, none⟩ = some (.int .i64 b.kind) ∧ w.cell? ⟨g, 4, none⟩ = some (.int .i64 b.phase)) ∧
    w.cell? ⟨g, 5, none⟩ = some (.string b.car) ∧ w.cell? ⟨g, 6, none⟩ = some (.string b.zone) ∧ w.cell? ⟨g, 7, none⟩ = some (.string b.serv) ∧ w.cell? ⟨g, 8, none⟩ = some (.slice a b.mem.length cap) := by
  unfold BtB btC at h
  simp [World.cell?, h]
theorem BtB.lt {w : World} {g : Nat} {a : Option Addr} {cap : Nat} {b : Bt} (h : BtB w g a cap b) : g < w.heap.size := (Array.getElem?_eq_some_iff.1 h).1
theorem BtB.below {w w' : World} {g : Nat} {a : Option Addr} {cap : Nat} {b : Bt} (h : BtB w g a cap b) (hb : Below w.heap.size w w') : BtB w' g a cap b := (hb.block g h.lt).trans h
theorem BtB.new (w : World) (a : Option Addr) (cap : Nat) (b : Bt) : BtB (w.alloc (.cells (btC a cap b) 98)) w.heap.size a cap b := heap_alloc_new w _

set_option maxHeartbeats 2000000 in
theorem btGroup_any (a b c : ByteArray) (w : World) (ha : a.size ≤ maxLen) (hb : b.size ≤ maxLen) (hc : c.size ≤ maxLen) : Calls Tryz.prog 165 #[.agg #[.string a, .string b, .string c]] w (Tell (groupB a b c) w) := by
  have C1 : Hid (∀ w, Calls Tryz.prog 35 #[.string a] w (Tell (rightT a) w)) := Lib.hid (fun w => right_any a w ha)
  have C2 : Hid (∀ w, Calls Tryz.prog 35 #[.string b] w (Tell (rightT b) w)) := Lib.hid (fun w => right_any b w hb)
  have C3 : Hid (∀ w, Calls Tryz.prog 35 #[.string c] w (Tell (rightT c) w)) := Lib.hid (fun w => right_any c w hc)
  have D := Lib.hid (GrB.new w a b c)
  have B := Lib.hid ((Below.refl w.heap.size w).alloc (Nat.le_refl _) (Obj.cells #[Value.string a, Value.string b, Value.string c] 24))
  have HE := Lib.hid (show groupB a b c = (rightT a && (rightT b && rightT c)) from rfl)
  clear ha hb hc
  go_enter Tryz.func165, Tryz.ntmps165
  go_wp2_with fail
  refine (C1.out _).mono ?_
  rintro e w1 ⟨rfl, b1⟩
  generalize w.alloc (Obj.cells #[Value.string a, Value.string b, Value.string c] 24) = W at *
  have D1 := Lib.hid (D.out.below b1)
  have B1 := Lib.hid (B.out.trans (b1.mono B.out.size))
  obtain ⟨c0, c1, c2⟩ := D1.out.cells
  clear b1
  cases h1 : rightT a with
  | false =>
    go_wp2_with fail
    go_ret
    exact ⟨by rw [HE.out, h1]; rfl, B1.out⟩
  | true =>
    go_wp2_with fail
    refine (C2.out _).mono ?_
    rintro e w2 ⟨rfl, b2⟩
    have D2 := Lib.hid (D1.out.below b2)
    have B2 := Lib.hid (B1.out.trans (b2.mono B1.out.size))
    clear c0 c1 c2 b2
    obtain ⟨c0, c1, c2⟩ := D2.out.cells
    cases h2 : rightT b with
    | false =>
      go_wp2_with fail
      go_ret
      exact ⟨by rw [HE.out, h1, h2]; rfl, B2.out⟩
    | true =>
      go_wp2_with fail
      refine (C3.out _).mono ?_
      rintro e w3 ⟨rfl, b3⟩
      have B3 := Lib.hid (B2.out.trans (b3.mono B2.out.size))
      clear c0 c1 c2 b3
      go_wp2_with fail
      go_ret
      exact ⟨by rw [HE.out, h1, h2]; rfl, B3.out⟩

set_option maxHeartbeats 2000000 in
theorem members_any (a : Option Addr) (cap : Nat) (l : List ByteArray) (w : World) (h : StrsP w a cap l) (hf : ∀ x ∈ l, x.size ≤ maxLen) :
    Calls Tryz.prog 166 #[.slice a l.length cap] w (Tell (membersB l) w) := by
  have H := Lib.hid h
  have hl := h.len
  have HF := Lib.hid hf
  clear h hf
  by_cases h64 : 64 < l.length
  · have HE := Lib.hid (show membersB l = false by simp [membersB]; omega)
    go_enter Tryz.func166, Tryz.ntmps166
    go_wp2_with fail
    go_ret
    exact ⟨by rw [HE.out]; rfl, Below.refl _ _⟩
  · have HM := Lib.hid (show membersB l = goodM (l.take 0) (l.drop 0) by simp [membersB]; omega)
    go_enter Tryz.func166, Tryz.ntmps166
    go_wp2_with fail
    go_loopw [10] (fun i wr => ∃ k : Nat, k ≤ l.length ∧ i = .int .i64 k ∧ Hid (membersB l = goodM (l.take k) (l.drop k)) ∧ Below w.heap.size w wr) (fun i _ => l.length - (intOf i).toNat)
    case atStart => exact ⟨0, Nat.zero_le _, rfl, HM, Below.refl _ _⟩
    case round =>
      obtain ⟨k, hk, rfl, HK, hbw⟩ := hrel
      by_cases hlt : k < l.length
      · have HP := Lib.hid (H.out.below hbw)
        obtain ⟨b, o, rfl, q1, c1⟩ := HP.out.at k hlt
        have p1 := H.out.cap
        obtain ⟨a2, c2, s2, k2⟩ := slice_toT (a := some ⟨b, o, none⟩) p1 k (k : Int) rfl (by omega)
        have HS := Lib.hid (goodM_step l k hlt)
        have hsz := HF.out l[k] (List.getElem_mem hlt)
        have C := Lib.hid (fun w => show Calls Tryz.prog 35 #[.string l[k]] w (Tell (rightT l[k]) w) from right_any l[k] w hsz)
        have C2 := Lib.hid (fun W hW => contains_any a2 c2 (l.take k) l[k] W hW)
        have H2 := Lib.hid (k2 wr HP.out)
        clear k2 hsz
        generalize l[k] = x at *
        generalize l.take k = d at *
        cases hr : rightT x with
        | false =>
          rw [hr] at C
          have HE := Lib.hid (show membersB l = false by rw [HK.out, HS.out, hr]; rfl)
          go_wp2_with fail
          refine (C.out _).mono ?_
          rintro e w1 ⟨rfl, b1⟩
          go_wp2_with fail
          go_ret
          exact ⟨by rw [HE.out]; rfl, hbw.trans (b1.mono hbw.size)⟩
        | true =>
          rw [hr] at C
          go_wp2_with fail
          refine (C.out _).mono ?_
          rintro e w1 ⟨rfl, b1⟩
          have H3 := Lib.hid (H2.out.below b1)
          go_wp2_with fail
          refine (C2.out _ H3.out).mono ?_
          rintro e w2 ⟨rfl, rfl⟩
          cases hh : hasT d x with
          | true =>
            have HE := Lib.hid (show membersB l = false by rw [HK.out, HS.out, hr, hh]; rfl)
            go_wp2_with fail
            go_ret
            exact ⟨by rw [HE.out]; rfl, hbw.trans (b1.mono hbw.size)⟩
          | false =>
            have HE := Lib.hid (show membersB l = goodM (l.take (k + 1)) (l.drop (k + 1)) by rw [HK.out, HS.out, hr, hh]; rfl)
            go_wp2_with fail
            go_roundw
            case rel => exact ⟨k + 1, by omega, by go_num, HE, hbw.trans (b1.mono hbw.size)⟩
            case measure => simp [intOf]; omega
      · have HE := Lib.hid (show membersB l = true by rw [HK.out, List.drop_eq_nil_of_le (by omega)]; rfl)
        go_wp2_with fail
        go_ret
        exact ⟨by rw [HE.out]; rfl, hbw⟩
end

/- BtRight: What Right of package batch, and the document's, answer, at every batch. -/
section
set_option maxRecDepth 100000
open Go.RowKit

theorem right_all (b : Bt) : rightBt b = (aboveB b.id && (tallyB b.wt && (tickB b.born && (((b.kind == 1) || (b.kind == 2)) && (decide (1 ≤ b.phase) && (decide (b.phase ≤ 3) && (groupB b.car b.zone b.serv && membersB b.mem))))))) := by
  have e1 : kindB b.kind = ((b.kind == 1) || (b.kind == 2)) := by rw [Bool.eq_iff_iff]; simp [kindB]
  have e2 : btPhaseB b.phase = (decide (1 ≤ b.phase) && decide (b.phase ≤ 3)) := by rw [Bool.eq_iff_iff]; simp [btPhaseB]
  rw [rightBt, e1, e2, Bool.and_assoc]

set_option maxHeartbeats 4000000 in
theorem btRight_any (a : Option Addr) (cap : Nat) (b : Bt) (w : World) (h : BtP w a cap b) : Calls Tryz.prog 136 #[btV a cap b] w (Tell (rightBt b) w) := by
  have C1 := Lib.hid (fun w => above_any b.id w)
  have C2 := Lib.hid (fun w => tally_any b.wt w)
  have C3 := Lib.hid (fun w => tick_any b.born w)
  have C4 := Lib.hid (fun w => btGroup_any b.car b.zone b.serv w h.car h.zone h.serv)
  have C5 := Lib.hid (fun W hW => members_any a cap b.mem W hW h.fit)
  have D := Lib.hid (BtB.new w a cap b)
  have B := Lib.hid ((Below.refl w.heap.size w).alloc (Nat.le_refl _) (Obj.cells (btC a cap b) 98))
  have L := Lib.hid (h.mem.below B.out)
  have HE := Lib.hid (right_all b)
  clear h
  unfold btV
  unfold btC at *
  go_enter Tryz.func136, Tryz.ntmps136
  go_wp2_with fail
  generalize w.alloc (Obj.cells #[Value.int IntKind.i64 b.id, Value.int IntKind.i64 b.wt, Value.int IntKind.i64 b.born, Value.int IntKind.i64 b.kind, Value.int IntKind.i64 b.phase, Value.string b.car, Value.string b.zone, Value.string b.serv, Value.slice a b.mem.length cap] 98) = W at *
  obtain ⟨⟨c0, c1, c2, c3, c4⟩, c5, c6, c7, c8⟩ := BtB.cells (b := b) D.out
  go_wp2_with fail
  refine (C1.out _).mono ?_
  rintro e w1 ⟨rfl, rfl⟩
  cases h1 : aboveB b.id with
  | false =>
    go_wp2_with fail
    go_ret
    exact ⟨by rw [HE.out, h1]; rfl, B.out⟩
  | true =>
    go_wp2_with fail
    refine (C2.out _).mono ?_
    rintro e w1 ⟨rfl, rfl⟩
    cases h2 : tallyB b.wt with
    | false =>
      go_wp2_with fail
      go_ret
      exact ⟨by rw [HE.out, h1, h2]; rfl, B.out⟩
    | true =>
      go_wp2_with fail
      refine (C3.out _).mono ?_
      rintro e w1 ⟨rfl, rfl⟩
      cases h3 : tickB b.born with
      | false =>
        go_wp2_with fail
        go_ret
        exact ⟨by rw [HE.out, h1, h2, h3]; rfl, B.out⟩
      | true =>
        cases hk : ((b.kind == 1) || (b.kind == 2)) with
        | false =>
          have hk2 := hk
          rw [Bool.or_eq_false_iff] at hk2
          obtain ⟨ka, kb⟩ := hk2
          go_wp2_with fail
          go_ret
          exact ⟨by rw [HE.out, h1, h2, h3, hk]; rfl, B.out⟩
        | true =>
          cases ka : (b.kind == 1) with
          | false =>
            have kb : (b.kind == 2) = true := by rw [ka] at hk; exact hk
            cases p1 : decide (1 ≤ b.phase) with
            | false =>
              go_wp2_with fail
              go_ret
              exact ⟨by rw [HE.out, h1, h2, h3, hk, p1]; rfl, B.out⟩
            | true =>
              cases p2 : decide (b.phase ≤ 3) with
              | false =>
                go_wp2_with fail
                go_ret
                exact ⟨by rw [HE.out, h1, h2, h3, hk, p1, p2]; rfl, B.out⟩
              | true =>
                have p1i : 1 ≤ b.phase := by simpa using p1
                go_wp2_with fail
                refine (C4.out _).mono ?_
                rintro e w1 ⟨rfl, b1⟩
                have D1 := Lib.hid (BtB.below (b := b) D.out b1)
                have B1 := Lib.hid (B.out.trans (b1.mono B.out.size))
                have L1 := Lib.hid (L.out.below b1)
                obtain ⟨⟨d0, d1, d2, d3, d4⟩, d5, d6, d7, d8⟩ := BtB.cells (b := b) D1.out
                clear b1 c0 c1 c2 c3 c4 c5 c6 c7 c8
                cases h4 : groupB b.car b.zone b.serv with
                | false =>
                  go_wp2_with fail
                  go_ret
                  exact ⟨by rw [HE.out, h1, h2, h3, hk, p1, p2, h4]; rfl, B1.out⟩
                | true =>
                  go_wp2_with fail
                  refine (C5.out _ L1.out).mono ?_
                  rintro e w2 ⟨rfl, b2⟩
                  go_wp2_with fail
                  go_ret
                  exact ⟨by rw [HE.out, h1, h2, h3, hk, p1, p2, h4]; rfl, B1.out.trans (b2.mono B1.out.size)⟩
          | true =>
            cases p1 : decide (1 ≤ b.phase) with
            | false =>
              go_wp2_with fail
              go_ret
              exact ⟨by rw [HE.out, h1, h2, h3, hk, p1]; rfl, B.out⟩
            | true =>
              cases p2 : decide (b.phase ≤ 3) with
              | false =>
                go_wp2_with fail
                go_ret
                exact ⟨by rw [HE.out, h1, h2, h3, hk, p1, p2]; rfl, B.out⟩
              | true =>
                have p1i : 1 ≤ b.phase := by simpa using p1
                go_wp2_with fail
                refine (C4.out _).mono ?_
                rintro e w1 ⟨rfl, b1⟩
                have D1 := Lib.hid (BtB.below (b := b) D.out b1)
                have B1 := Lib.hid (B.out.trans (b1.mono B.out.size))
                have L1 := Lib.hid (L.out.below b1)
                obtain ⟨⟨d0, d1, d2, d3, d4⟩, d5, d6, d7, d8⟩ := BtB.cells (b := b) D1.out
                clear b1 c0 c1 c2 c3 c4 c5 c6 c7 c8
                cases h4 : groupB b.car b.zone b.serv with
                | false =>
                  go_wp2_with fail
                  go_ret
                  exact ⟨by rw [HE.out, h1, h2, h3, hk, p1, p2, h4]; rfl, B1.out⟩
                | true =>
                  go_wp2_with fail
                  refine (C5.out _ L1.out).mono ?_
                  rintro e w2 ⟨rfl, b2⟩
                  go_wp2_with fail
                  go_ret
                  exact ⟨by rw [HE.out, h1, h2, h3, hk, p1, p2, h4]; rfl, B1.out.trans (b2.mono B1.out.size)⟩
end

/- BtRight2: What the document's Right of batches answers, at every batch. -/
section
set_option maxRecDepth 100000
open Go.RowKit

end

/- BtSame: What Same of package batch, and the document's, answer, at any two batches. -/
section
set_option maxRecDepth 100000
open Go.RowKit

theorem eq_grT (a b c x y z : ByteArray) (w : World) : (binOp .eql 24 (.agg #[.string a, .string b, .string c]) (.agg #[.string x, .string y, .string z])).run Tryz.prog w = .ok (.bool (sameG a b c x y z)) w := by
  have u9 := Tryz.underlying9
  have a9 := Tryz.isAgg9
  have z9 := Tryz.sizeOf9
  have hS : Tryz.prog.underlying 24 = some (.struct (Tryz.prog.fieldsOf 24)) := by kernel_rfl
  have hp : Tryz.prog.stoodInHeld 24 = false := by kernel_rfl
  unfold sameG
  rw [run_eql_struct, show (10000 : Nat) = 9999 + 1 from rfl, run_equalIn_agg w 9999 24 _ _ hS hp]
  simp only [Program.fieldsOf, Tryz.underlying24]
  cases h1 : (a.toList == x.toList) <;> cases h2 : (b.toList == y.toList) <;> cases h3 : (c.toList == z.toList) <;> go_simp

set_option maxHeartbeats 4000000 in
theorem btSame_any (a1 a2 : Option Addr) (c1 c2 : Nat) (x y : Bt) (w : World) (h1 : BtP w a1 c1 x) (h2 : BtP w a2 c2 y) : Calls Tryz.prog 102 #[btV a1 c1 x, btV a2 c2 y] w (Tell (sameBt x y) w) := by
  have D0 := Lib.hid (BtB.new w a1 c1 x)
  have D2 := Lib.hid (BtB.new (w.alloc (.cells (btC a1 c1 x) 98)) a2 c2 y)
  have hz : (w.alloc (.cells (btC a1 c1 x) 98)).heap.size = w.heap.size + 1 := by simp
  have D1 := Lib.hid (D0.out.below ((Below.refl _ _).alloc (Nat.le_refl _) (.cells (btC a2 c2 y) 98)))
  have B := Lib.hid (((Below.refl w.heap.size w).alloc (Nat.le_refl _) (Obj.cells (btC a1 c1 x) 98)).alloc (by simp) (Obj.cells (btC a2 c2 y) 98))
  have C := Lib.hid (equalT_any a1 a2 c1 c2 x.mem y.mem _ (h1.mem.below B.out) (h2.mem.below B.out))
  rw [hz] at D2
  have HE := Lib.hid (show sameBt x y = ((x.id == y.id) && ((x.wt == y.wt) && ((x.born == y.born) && ((x.kind == y.kind) && ((x.phase == y.phase) && (sameG x.car x.zone x.serv y.car y.zone y.serv && sameT x.mem y.mem)))))) from rfl)
  have Q := eq_grT x.car x.zone x.serv y.car y.zone y.serv
  clear h1 h2 hz D0
  unfold btV
  unfold btC at *
  go_enter Tryz.func102, Tryz.ntmps102
  obtain ⟨⟨c0, c1', c2', c3, c4⟩, c5, c6, c7, c8⟩ := BtB.cells (b := x) D1.out
  obtain ⟨⟨d0, d1, d2, d3, d4⟩, d5, d6, d7, d8⟩ := BtB.cells (b := y) D2.out
  clear D1 D2
  have BW := B.out
  cases k1 : (x.id == y.id) with
  | false =>
    go_wp2_with fail
    go_ret
    exact ⟨by rw [HE.out, k1]; rfl, BW⟩
  | true =>
    cases k2 : (x.wt == y.wt) with
    | false =>
      go_wp2_with fail
      go_ret
      exact ⟨by rw [HE.out, k1, k2]; rfl, BW⟩
    | true =>
      cases k3 : (x.born == y.born) with
      | false =>
        go_wp2_with fail
        go_ret
        exact ⟨by rw [HE.out, k1, k2, k3]; rfl, BW⟩
      | true =>
        cases k4 : (x.kind == y.kind) with
        | false =>
          go_wp2_with fail
          go_ret
          exact ⟨by rw [HE.out, k1, k2, k3, k4]; rfl, BW⟩
        | true =>
          cases k5 : (x.phase == y.phase) with
          | false =>
            go_wp2_with fail
            go_ret
            exact ⟨by rw [HE.out, k1, k2, k3, k4, k5]; rfl, BW⟩
          | true =>
            cases k6 : sameG x.car x.zone x.serv y.car y.zone y.serv with
            | false =>
              rw [k6] at Q
              go_wp2_with fail
              go_ret
              exact ⟨by rw [HE.out, k1, k2, k3, k4, k5, k6]; rfl, BW⟩
            | true =>
              rw [k6] at Q
              go_wp2_with fail
              refine C.out.mono ?_
              rintro e w1 ⟨rfl, b1⟩
              go_wp2_with fail
              go_ret
              exact ⟨by rw [HE.out, k1, k2, k3, k4, k5, k6]; rfl, BW.trans (b1.mono BW.size)⟩

end

/- BtHas: What the document's Has of batches answers. -/
section
set_option maxRecDepth 100000
open Go.RowKit Go.ChangeShapes Go.WideShapes Go.ChangeAt

end

/- BtArgs0: What came in as a batch, as caps. -/
section
set_option maxRecDepth 100000
open Go.ChangeShapes Go.WideShapes Go.ChangeAt Go.RowKit

end
end Go.Proofs.YtfmpibmhhfmajaaGreatDoor
