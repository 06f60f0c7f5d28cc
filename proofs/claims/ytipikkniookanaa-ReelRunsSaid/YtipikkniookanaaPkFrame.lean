/- What Frame and Open of package packet answer. -/
import Derived.Test.YtipikkniookanaaPkWrite
import Derived.Deep.RegionLaw
namespace Go.Proofs.Ytipikkniookanaa
set_option maxRecDepth 100000
open Go.RowKit

theorem lists_two {W : World} {a b : Option Addr} {ca cb : Nat} {k l : List Nat} (h1 : BytesP W a ca k) (h2 : BytesP W b cb l) (T : TypeId) :
    ListsP (W.alloc (.cells #[.slice a k.length ca, .slice b l.length cb] T)) (some ⟨W.heap.size, 0, none⟩) 2 [⟨a, ca, k⟩, ⟨b, cb, l⟩] := by
  have hB := (Below.refl W.heap.size W).alloc (Nat.le_refl _) (.cells #[.slice a k.length ca, .slice b l.length cb] T)
  refine ⟨by simp, by simp, fun p hp => ?_, fun _ => ⟨_, _, rfl, by simp, fun j v hj => ?_⟩⟩
  · simp at hp
    rcases hp with rfl | rfl
    · exact h1.below hB
    · exact h2.below hB
  · match j, hj with
    | 0, hj => simp at hj; subst hj; simp
    | 1, hj => simp at hj; subst hj; simp
    | _ + 2, hj => simp at hj

/-- Four bytes are answered in new memory; all that was there stays. -/
def SealPost (n : Nat) (W : World) (e : Ending) (w' : World) : Prop := ∃ a c, e = .returned (.slice a 4 c) ∧ BytesP w' a c (four n) ∧ Below W.heap.size W w'

theorem seal_two {W : World} {a b : Option Addr} {ca cb : Nat} {k l : List Nat} (h1 : BytesP W a ca k) (h2 : BytesP W b cb l) (N : Nat) (hN : W.heap.size = N) :
    Calls Try.prog 78 #[.slice (some ⟨N, 0, none⟩) 2 2] (W.alloc (.cells #[.slice a k.length ca, .slice b l.length cb] 24)) (SealPost (crc (k ++ l)) W) := by
  subst hN
  have hf : flat [⟨a, ca, k⟩, ⟨b, cb, l⟩] = k ++ l := by simp [flat]
  refine (seal_any _ _ _ _ (lists_two h1 h2 24) (by rw [hf]; exact bytes_app h1.byte h2.byte)).mono ?_
  rintro e w' ⟨v, rfl, ho, hb⟩
  obtain ⟨a', c', rfl, hB⟩ := ho.bytes (four_bytes _)
  rw [hf] at hB
  exact ⟨a', c', rfl, hB, ((Below.refl W.heap.size W).alloc (Nat.le_refl _) _).trans (hb.mono (by simp))⟩

theorem seal_two_drew {W : World} {a b : Option Addr} {ca cb : Nat} {k l : List Nat} (h1 : BytesP W a ca k) (h2 : BytesP W b cb l) (N : Nat) (hN : W.heap.size = N) :
    Calls Try.prog 78 #[.slice (some ⟨N, 0, none⟩) 2 2] (W.alloc (.cells #[.slice a k.length ca, .slice b l.length cb] 24)).drew (SealPost (crc (k ++ l)) W) :=
  (seal_two (W := W.drew) (h1.below (Below.refl _ W).drew) (h2.below (Below.refl _ W).drew) N hN).mono fun _ _ ⟨a, c, he, hB, hb⟩ => ⟨a, c, he, hB, hb.os, hb.tape, hb.output, hb.size, hb.block⟩

theorem seal_one {W : World} {a : Option Addr} {ca : Nat} {k : List Nat} (h1 : BytesP W a ca k) (N : Nat) (hN : W.heap.size = N) :
    Calls Try.prog 78 #[.slice (some ⟨N, 0, none⟩) 1 1] (W.alloc (.cells #[.slice a k.length ca] 24)) (SealPost (crc k) W) := by
  subst hN
  have hf : flat [⟨a, ca, k⟩] = k := by simp [flat]
  refine (seal_any _ _ _ _ (lists_one h1 24) (by rw [hf]; exact h1.byte)).mono ?_
  rintro e w' ⟨v, rfl, ho, hb⟩
  obtain ⟨a', c', rfl, hB⟩ := ho.bytes (four_bytes _)
  rw [hf] at hB
  exact ⟨a', c', rfl, hB, ((Below.refl W.heap.size W).alloc (Nat.le_refl _) _).trans (hb.mono (by simp))⟩

theorem seal_one_drew {W : World} {a : Option Addr} {ca : Nat} {k : List Nat} (h1 : BytesP W a ca k) (N : Nat) (hN : W.heap.size = N) :
    Calls Try.prog 78 #[.slice (some ⟨N, 0, none⟩) 1 1] (W.alloc (.cells #[.slice a k.length ca] 24)).drew (SealPost (crc k) W) :=
  (seal_one (W := W.drew) (h1.below (Below.refl _ W).drew) N hN).mono fun _ _ ⟨a, c, he, hB, hb⟩ => ⟨a, c, he, hB, hb.os, hb.tape, hb.output, hb.size, hb.block⟩

theorem concat_three {W : World} {a b c : Option Addr} {ca cb cc : Nat} {k l m : List Nat} (h1 : BytesP W a ca k) (h2 : BytesP W b cb l) (h3 : BytesP W c cc m) (h0 : 0 < k.length) (hl : k.length + l.length + m.length ≤ 1000000) (N : Nat) (hN : W.heap.size = N) :
    Calls Try.prog 50 #[.slice (some ⟨N, 0, none⟩) 3 3] (W.alloc (.cells #[.slice a k.length ca, .slice b l.length cb, .slice c m.length cc] 24)) (OwnPost (k ++ (l ++ m)) W) := by
  subst hN
  have hf : flat [⟨a, ca, k⟩, ⟨b, cb, l⟩, ⟨c, cc, m⟩] = k ++ (l ++ m) := by simp [flat]
  have hfl : (flat [⟨a, ca, k⟩, ⟨b, cb, l⟩, ⟨c, cc, m⟩]).length = k.length + (l.length + m.length) := by rw [hf, List.length_append, List.length_append]
  refine (concat_any _ _ _ _ (lists_three h1 h2 h3 24) (by rw [hfl]; omega) (by rw [hfl]; omega)).mono ?_
  rintro e w' ⟨v, rfl, ho, hb⟩
  rw [hf] at ho
  exact ⟨v, rfl, ho.base (by simp), ((Below.refl W.heap.size W).alloc (Nat.le_refl _) _).trans (hb.mono (by simp))⟩

/-- A frame's bytes in memory of the call's own, and no error. -/
def FramePost (l : List Nat) (w : World) (e : Ending) (w' : World) : Prop := ∃ v, e = .returned (.tuple #[v, .int .i64 0]) ∧ OwnB w' w.heap.size v l ∧ Below w.heap.size w w'

theorem head_block (k : Nat) (hk : k < 256) (W : World) : BytesP (W.alloc (.cells #[.int .u8 167, .int .u8 1, .int .u8 (k : Int)] 5)) (some ⟨W.heap.size, 0, none⟩) 3 [167, 1, k] :=
  bytes_block [167, 1, k] (by intro b hb; simp at hb; omega) (by simp) W 5 (0, 0)

theorem head_number (k n : Nat) (hk : k < 256) (hn : n ≤ 65536) (W : World) (N : Nat) (hN : W.heap.size = N) :
    Calls Try.prog 40 #[.slice (some ⟨N, 0, none⟩) 3 3, .slice (some ⟨N + 1, 0, none⟩) 1 1] ((W.alloc (.cells #[.int .u8 167, .int .u8 1, .int .u8 (k : Int)] 5)).alloc (.cells #[.int .u64 (n : Int)] 50))
      (fun e w' => ∃ a c, e = .returned (.slice a (167 :: 1 :: k :: numL n).length c) ∧ BytesP w' a c (167 :: 1 :: k :: numL n) ∧ Below W.heap.size W w') := by
  subst hN
  have h1 := (head_block k hk W).below ((Below.refl _ _).alloc (Nat.le_refl _) (.cells #[.int .u64 (n : Int)] 50))
  have h2 := nums_one n (by omega) (W.alloc (.cells #[.int .u8 167, .int .u8 1, .int .u8 (k : Int)] 5))
  have hs : (W.alloc (.cells #[.int .u8 167, .int .u8 1, .int .u8 (k : Int)] 5)).heap.size = W.heap.size + 1 := by simp
  rw [hs] at h2
  refine (pkNumber_any _ _ _ _ _ _ _ h1 h2 (by simp) (by simp)).mono ?_
  rintro e w' ⟨v, rfl, ho, hb⟩
  have hf : [167, 1, k] ++ numsL [n] = 167 :: 1 :: k :: numL n := by simp [numsL]
  rw [hf] at ho
  obtain ⟨a', c', rfl, hB⟩ := ho.bytes (by
    intro b hb
    simp only [List.mem_cons] at hb
    rcases hb with rfl | rfl | rfl | hb
    · decide
    · decide
    · exact hk
    · exact numL_bytes _ b hb)
  exact ⟨a', c', rfl, hB, (((Below.refl W.heap.size W).alloc (Nat.le_refl _) _).alloc (by simp) _).trans (hb.mono (by simp; omega))⟩

set_option maxHeartbeats 4000000 in
theorem frame_any (k : Nat) (a : Option Addr) (cap : Nat) (l : List Nat) (w : World) (h : BytesP w a cap l) (hk : k < 256) (hl : l.length ≤ 65536) : Calls Try.prog 52 #[.agg #[.int .u8 (k : Int), .slice a l.length cap]] w (FramePost (frameL k l) w) := by
  have hwz : IntKind.u64.wrap (l.length : Int) = (l.length : Int) := by rw [IntKind.wrap_u64]; omega
  have hl' : decide (65536 < (l.length : Int)) = false := by simp; omega
  have b1 := (Below.refl w.heap.size w).alloc (Nat.le_refl _) (.cells #[.int .u8 (k : Int), .slice a l.length cap] 76)
  have H1 := Lib.hid (h.below b1)
  have C1 := Lib.hid (head_number k l.length hk hl (w.alloc (.cells #[.int .u8 (k : Int), .slice a l.length cap] 76)) (w.heap.size + 1) (by simp))
  have F1 := Lib.hid (show (w.alloc (.cells #[.int .u8 (k : Int), .slice a l.length cap] 76)).cell? ⟨w.heap.size, 1, none⟩ = some (.slice a l.length cap) by simp)
  have hsz := Lib.hid (show w.heap.size < (w.alloc (.cells #[.int .u8 (k : Int), .slice a l.length cap] 76)).heap.size by simp)
  have HF := Lib.hid (show frameL k l = (167 :: 1 :: k :: numL l.length) ++ (l ++ four (crc ((167 :: 1 :: k :: numL l.length) ++ l))) from rfl)
  have h0 := Lib.hid (show 0 < (167 :: 1 :: k :: numL l.length).length by simp)
  have hnl := Lib.hid (show (167 :: 1 :: k :: numL l.length).length ≤ 13 by have := numL_ten (show l.length < 18446744073709551616 by omega); simp; omega)
  clear h
  generalize 167 :: 1 :: k :: numL l.length = hd at *
  go_enter Try.func52, Try.ntmps52
  go_wp2_with fail
  refine C1.out.mono ?_
  rintro e w4 ⟨a4, c4, rfl, hB4, b4⟩
  have HB4 := Lib.hid hB4
  have HL4 := Lib.hid (H1.out.below b4)
  have f4 : w4.cell? ⟨w.heap.size, 1, none⟩ = some (.slice a l.length cap) := (b4.cell (p := ⟨w.heap.size, 1, none⟩) hsz.out).trans F1.out
  have hz4 := Lib.hid (Nat.lt_of_lt_of_le hsz.out b4.size)
  have f5 : (w4.alloc (.cells #[.slice a4 hd.length c4, .slice a l.length cap] 24)).cell? ⟨w.heap.size, 1, none⟩ = some (.slice a l.length cap) := (((Below.refl w4.heap.size w4).alloc (Nat.le_refl _) _).cell (p := ⟨w.heap.size, 1, none⟩) hz4.out).trans f4
  have bb4 := Lib.hid (b1.trans (b4.mono b1.size))
  clear hB4 b4 b1 C1 F1
  have C2 := Lib.hid (fun N hN => seal_two HB4.out HL4.out N hN)
  have C2d := Lib.hid (fun N hN => seal_two_drew HB4.out HL4.out N hN)
  have C3 := Lib.hid (fun W a6 c6 (b : Below w4.heap.size w4 W) (h : BytesP W a6 c6 (four (crc (hd ++ l)))) N hN => concat_three (HB4.out.below b) (HL4.out.below b) h h0.out (by rw [four_len]; have := hnl.out; omega) N hN)
  rw [show (four (crc (hd ++ l))).length = 4 from rfl] at C3
  go_wp2_with fail
  go_region_law (go_simp; first
    | (go_at_call 78; (first | refine (C2.out _ (by simp)).mono ?_ | refine (C2d.out _ (by simp)).mono ?_); rintro e w6 ⟨a6, c6, rfl, hB6, b6⟩; have HB6 := Lib.hid hB6; have BB6 := Lib.hid b6; have f6 : w6.cell? ⟨w.heap.size, 1, none⟩ = some (.slice a l.length cap) := (b6.cell (p := ⟨w.heap.size, 1, none⟩) hz4.out).trans f4; clear hB6 b6)
    | (go_at_call 50; refine (C3.out _ a6 c6 BB6.out HB6.out _ (by simp)).mono ?_; rintro e w7 ⟨v7, rfl, o7, b7⟩; have O7 := Lib.hid o7; have B7 := Lib.hid b7; clear o7 b7))
  all_goals
    go_wp2_with fail
    go_ret2
    have bw6 := bb4.out.trans (BB6.out.mono bb4.out.size)
    exact ⟨_, rfl, by rw [HF.out]; exact O7.out.base bw6.size, bw6.trans (B7.out.mono bw6.size)⟩

set_option maxHeartbeats 4000000 in
/-- A frame that is too long. -/
theorem frame_long (k : Int) (a : Option Addr) (n cap : Nat) (w : World) (hl : 65536 < n) : Calls Try.prog 52 #[.agg #[.int .u8 k, .slice a n cap]] w (fun e w' => e = .returned (.tuple #[.slice none 0 0, .int .i64 63]) ∧ Below w.heap.size w w') := by
  have hl' : decide (65536 < (n : Int)) = true := by simp; omega
  go_enter Try.func52, Try.ntmps52
  go_wp2_with fail
  go_ret2
  exact ⟨rfl, (Below.refl w.heap.size w).alloc (Nat.le_refl _) _⟩

theorem size_setRow (w : World) (g : Nat) (cs : Array Value) : (w.setRow g cs).heap.size = w.heap.size := by simp [World.setRow]
theorem below_setRow {B : Nat} {a w : World} (h : Below B a w) {g : Nat} (hg : B ≤ g) (cs : Array Value) : Below B a (w.setRow g cs) :=
  h.trans ⟨rfl, rfl, rfl, by rw [size_setRow]; exact Nat.le_refl _, fun k hk => setRow_other w g k cs (by omega)⟩

theorem results_cell_tmp2 {fn : Func} {p u q : Tmp} {ty : TypeId} (h : fn.results = #[.cell p ty, .tmp u, .tmp q]) (tmps : Array Value) (w : World) (g : Nat) (cs : Array Value)
    (hp : tmps.getD p undef = .pointer (some ⟨g, 0, none⟩)) (hl : (loadVar ty ⟨g, 0, none⟩).run Try.prog w = .ok (.agg cs) w) :
    (results fn tmps).run Try.prog w = .ok (.tuple #[.agg cs, tmps.getD u undef, tmps.getD q undef]) w := by
  have hp' : tmps[p]?.getD undef = .pointer (some ⟨g, 0, none⟩) := by simpa using hp
  simp [results, h, hp', asAddr, hl]

theorem size27 (a b : Value) : (Try.prog.info? 76).map (·.size) = some #[a, b].size := by
  show _ = some 2
  kernel_rfl
theorem load27 {w : World} {g : Nat} {p q : Value} (hg : w.heap[g]? = some (.cells #[p, q] 76 (0, 0))) : (loadVar 76 ⟨g, 0, none⟩).run Try.prog w = .ok (.agg #[p, q]) w :=
  run_loadVar_row w g 76 76 #[p, q] (0, 0) _ hg Try.underlying76 rfl (size27 p q)

/-- A frame, how many bytes it has and the error's number; all that was there stays. -/
def OpenPost (r : Nat × List Nat × Nat × Nat) (w : World) (e : Ending) (w' : World) : Prop :=
  ∃ a c, e = .returned (.tuple #[.agg #[.int .u8 (r.1 : Int), .slice a r.2.1.length c], .int .i64 (r.2.2.1 : Int), .int .i64 (r.2.2.2 : Int)]) ∧ BytesP w' a c r.2.1 ∧ Below w.heap.size w w' ∧ ∀ b o, a = some ⟨b, o, none⟩ → w.heap.size ≤ b

theorem mark_block (W : World) : BytesP (W.alloc (.cells #[.int .u8 167, .int .u8 1] 5)) (some ⟨W.heap.size, 0, none⟩) 2 [167, 1] :=
  bytes_block [167, 1] (by intro b hb; simp at hb; omega) (by simp) W 5 (0, 0)

theorem one27 (k : Int) (a : Option Addr) (n c : Nat) : (#[Value.int .u8 k, Value.slice a n c]).all (·.oneCell') = true := by simp [Value.oneCell']

theorem wpList_store_frame {ops : Array Oper} {rest : List Oper} {o : Oper} {a : Act} {w : World} {Q : Exit → Act → World → Prop} (hgd : o.guard = none) (x y : Operand) (ho : o.op = .store 76 x y)
    (g : Nat) (k : Int) (ad : Option Addr) (n c : Nat) (hx : a.eval x = .pointer (some ⟨g, 0, none⟩)) (hy : a.eval y = .agg #[.int .u8 k, .slice ad n c]) (p q : Value) (hg : w.heap[g]? = some (.cells #[p, q] 76 (0, 0)))
    (h : wpList Try.prog ops Q rest (a.put o.dst undef) (w.setRow g #[.int .u8 k, .slice ad n c])) : wpList Try.prog ops Q (o :: rest) a w :=
  wpList_store_row hgd 76 x y ho g #[.int .u8 k, .slice ad n c] hx hy 76 #[p, q] hg (size27 _ _) rfl (one27 _ _ _ _) h

theorem row_cell {w : World} {g : Nat} {p q : Value} (h : w.heap[g]? = some (.cells #[p, q] 76 (0, 0))) : w.cell? ⟨g, 0, none⟩ = some p ∧ w.cell? ⟨g, 1, none⟩ = some q ∧ w.frozen? ⟨g, 0, none⟩ = false ∧ w.frozen? ⟨g, 1, none⟩ = false := by
  simp [World.cell?, World.frozen?, h]
theorem row_set {w : World} {g : Nat} {p q : Value} (h : w.heap[g]? = some (.cells #[p, q] 76 (0, 0))) (x y : Value) : ((w.setCell ⟨g, 0, none⟩ x).setCell ⟨g, 1, none⟩ y).heap[g]? = some (.cells #[x, y] 76 (0, 0)) := by
  simp [World.setCell, Array.getElem?_modify, h]

/-- What Open answers behind the first two bytes. -/
theorem openL_agreed {l : List Nat} (h : agreeL l [167, 1] = true) (h3 : ¬ l.length < 3) {v s e : Nat} (hn : numAt 65536 0 0 (l.drop 3) = (v, s, e)) :
    openL l = if e ≠ 0 then (0, [], 0, e) else if l.length < 3 + s + v then (0, [], 0, 61) else if agreeL (l.drop (3 + s + v)) (four (crc (l.take (3 + s + v)))) = false then (0, [], 0, 62)
      else if l.length < 3 + s + v + 4 then (0, [], 0, 61) else (l.getD 2 0, (l.drop (3 + s)).take v, 3 + s + v + 4, 0) := by
  unfold openL
  rw [hn, if_neg (by rw [h]; simp), if_neg h3]

set_option maxRecDepth 100000 in
set_option maxHeartbeats 8000000 in
theorem open_any (a : Option Addr) (cap : Nat) (l : List Nat) (w : World) (h : BytesP w a cap l) (hl : l.length ≤ 1000000) : Calls Try.prog 76 #[.slice a l.length cap] w (OpenPost (openL l) w) := by
  have hg0 : w.heap.size < ((w.alloc (.cells #[.int .u8 0, .slice none 0 0] 76)).alloc (.cells #[.int .u8 167, .int .u8 1] 5)).heap.size := by simp; omega
  have b2 := ((Below.refl w.heap.size w).alloc (Nat.le_refl _) (.cells #[.int .u8 0, .slice none 0 0] 76)).alloc (by simp) (.cells #[.int .u8 167, .int .u8 1] 5)
  have hB1 := mark_block (w.alloc (.cells #[.int .u8 0, .slice none 0 0] 76))
  rw [show (w.alloc (.cells #[.int .u8 0, .slice none 0 0] 76)).heap.size = w.heap.size + 1 by simp] at hB1
  have C1 := Lib.hid (agree_any a _ cap 2 l [167, 1] _ (h.below b2) hB1)
  have HG2 := Lib.hid (show ((w.alloc (.cells #[.int .u8 0, .slice none 0 0] 76)).alloc (.cells #[.int .u8 167, .int .u8 1] 5)).heap[w.heap.size]? = some (.cells #[.int .u8 0, .slice none 0 0] 76) by
    rw [heap_alloc_old _ _ (by simp)]; exact heap_alloc_new w _)
  have HG0 := Lib.hid hg0
  have H := Lib.hid h
  clear h hB1 hg0
  go_enter Try.func76, Try.ntmps76
  go_wp2_with fail
  refine C1.out.mono ?_
  rintro e w3 ⟨rfl, b3⟩
  have hG3 : w3.heap[w.heap.size]? = some (.cells #[.int .u8 0, .slice none 0 0] 76) := (b3.block _ HG0.out).trans HG2.out
  have B3 := Lib.hid (b2.trans (b3.mono b2.size))
  have HG3 := Lib.hid hG3
  clear b2 b3 hG3 C1 HG2 HG0
  cases tA : agreeL l [167, 1] with
  | false =>
    have HE := Lib.hid (show openL l = (0, [], 0, 62) by unfold openL; rw [if_pos tA])
    go_wp2_with (refine wpList_store_frame rfl _ _ rfl w.heap.size 0 none 0 0 rfl rfl _ _ HG3.out ?_)
    (try simp only [Exit.inBlock, Exit.then])
    refine bodyPost_ret (results_cell_tmp2 rfl _ _ w.heap.size _ rfl (load27 (setRow_heap _ _ _ _ _ _ HG3.out))) rfl ?_
    exact ⟨none, 0, by rw [HE.out]; rfl, by rw [HE.out]; exact BytesP.nil _ _ _, below_setRow B3.out (Nat.le_refl _) _, fun _ _ e => by cases e⟩
  | true =>
    have HA := Lib.hid tA
    clear tA
    cases t3 : decide ((l.length : Int) < 3) with
    | true =>
      have HE := Lib.hid (show openL l = (0, [], 0, 61) by unfold openL; rw [if_neg (by rw [HA.out]; simp), if_pos (by simp at t3; omega)])
      go_wp2_with (refine wpList_store_frame rfl _ _ rfl w.heap.size 0 none 0 0 rfl rfl _ _ HG3.out ?_)
      (try simp only [Exit.inBlock, Exit.then])
      refine bodyPost_ret (results_cell_tmp2 rfl _ _ w.heap.size _ rfl (load27 (setRow_heap _ _ _ _ _ _ HG3.out))) rfl ?_
      exact ⟨none, 0, by rw [HE.out]; rfl, by rw [HE.out]; exact BytesP.nil _ _ _, below_setRow B3.out (Nat.le_refl _) _, fun _ _ e => by cases e⟩
    | false =>
      have h3 : ¬ l.length < 3 := by simp at t3; omega
      have H3 := Lib.hid h3
      obtain ⟨a1, c1, s1, k1⟩ := slice_from (a := a) H.out.cap 3 3 rfl (by omega)
      have HB1 := Lib.hid (k1 w3 (H.out.below B3.out))
      have HO := Lib.hid (fun v s e hn => openL_agreed HA.out H3.out (v := v) (s := s) (e := e) hn)
      have hdl : (l.drop 3).length = l.length - 3 := List.length_drop
      have HBY := Lib.hid (show Bytes (l.drop 3) from fun x hx => H.out.byte x (List.mem_of_mem_drop hx))
      clear k1
      generalize l.drop 3 = d at *
      have C2 := Lib.hid (show Calls Try.prog 89 #[.slice a1 d.length c1, .int .u64 65536] w3 (NumPost (numAt 65536 0 0 d) w3) from numberAt_any a1 c1 d 65536 w3 HB1.out (by decide))
      have HDL := Lib.hid hdl
      clear hdl
      rcases numAt_errs 65536 d 0 0 with hN | hN | ⟨v, s, hN, hs0, hsl⟩
      · have HE := Lib.hid (show openL l = (0, [], 0, 61) by rw [HO.out _ _ _ hN]; rfl)
        rw [hN] at C2
        clear hN
        go_wp2_with fail
        refine C2.out.mono ?_
        rintro e w4 ⟨rfl, rfl⟩
        go_wp2_with (refine wpList_store_frame rfl _ _ rfl w.heap.size 0 none 0 0 rfl rfl _ _ HG3.out ?_)
        (try simp only [Exit.inBlock, Exit.then])
        refine bodyPost_ret (results_cell_tmp2 rfl _ _ w.heap.size _ rfl (load27 (setRow_heap _ _ _ _ _ _ HG3.out))) rfl ?_
        exact ⟨none, 0, by rw [HE.out]; rfl, by rw [HE.out]; exact BytesP.nil _ _ _, below_setRow B3.out (Nat.le_refl _) _, fun _ _ e => by cases e⟩
      · have HE := Lib.hid (show openL l = (0, [], 0, 62) by rw [HO.out _ _ _ hN]; rfl)
        rw [hN] at C2
        clear hN
        go_wp2_with fail
        refine C2.out.mono ?_
        rintro e w4 ⟨rfl, rfl⟩
        go_wp2_with (refine wpList_store_frame rfl _ _ rfl w.heap.size 0 none 0 0 rfl rfl _ _ HG3.out ?_)
        (try simp only [Exit.inBlock, Exit.then])
        refine bodyPost_ret (results_cell_tmp2 rfl _ _ w.heap.size _ rfl (load27 (setRow_heap _ _ _ _ _ _ HG3.out))) rfl ?_
        exact ⟨none, 0, by rw [HE.out]; rfl, by rw [HE.out]; exact BytesP.nil _ _ _, below_setRow B3.out (Nat.le_refl _) _, fun _ _ e => by cases e⟩
      · have hv : v ≤ 65536 := by
          obtain ⟨_, _, _, _, _, h, _⟩ := numAt_alone 65536 d 0 0 v s HBY.out (by decide) hN
          exact h
        have HO2 := Lib.hid (HO.out _ _ _ hN)
        rw [hN] at C2
        have hsl2 : 3 + s ≤ l.length := by have := HDL.out; omega
        clear hN hsl HO
        obtain ⟨f, hf, HF⟩ : ∃ f : Nat, 3 + (s : Int) = (f : Int) ∧ Hid (3 + s = f) := ⟨3 + s, by omega, rfl⟩
        obtain ⟨t, ht, HT⟩ : ∃ t : Nat, (f : Int) + (v : Int) = (t : Int) ∧ Hid (3 + s + v = t) := ⟨f + v, by omega, by rw [HF.out]; rfl⟩
        have hfl : f ≤ l.length := by have := HF.out; omega
        have hft : f ≤ t := by have := HF.out; have := HT.out; omega
        have htm : t ≤ 2000000 := by have := HF.out; have := HT.out; omega
        have hwv : IntKind.i64.wrap (v : Int) = (v : Int) := by rw [IntKind.wrap_i64]; omega
        rw [HT.out, HF.out] at HO2
        have HTV := Lib.hid (show t - f = v by have := HF.out; have := HT.out; omega)
        by_cases tD : l.length < t
        · have HE := Lib.hid (show openL l = (0, [], 0, 61) by rw [HO2.out, if_neg (by simp), if_pos tD])
          go_wp2_with fail
          refine C2.out.mono ?_
          rintro e w4 ⟨rfl, rfl⟩
          go_wp2_with (refine wpList_store_frame rfl _ _ rfl w.heap.size 0 none 0 0 rfl rfl _ _ HG3.out ?_)
          (try simp only [Exit.inBlock, Exit.then])
          refine bodyPost_ret (results_cell_tmp2 rfl _ _ w.heap.size _ rfl (load27 (setRow_heap _ _ _ _ _ _ HG3.out))) rfl ?_
          exact ⟨none, 0, by rw [HE.out]; rfl, by rw [HE.out]; exact BytesP.nil _ _ _, below_setRow B3.out (Nat.le_refl _) _, fun _ _ e => by cases e⟩
        · rw [if_neg (by simp), if_neg tD] at HO2
          obtain ⟨a2, c2, s2, k2⟩ := slice_from (a := a) H.out.cap t (t : Int) rfl (by omega)
          obtain ⟨a3, c3, s3, k3⟩ := slice_to (a := a) H.out.cap t (t : Int) rfl (by omega)
          have HB2 := Lib.hid (k2 w3 (H.out.below B3.out))
          have HB3 := Lib.hid (k3 w3 (H.out.below B3.out))
          clear k2 k3
          generalize l.drop t = lb at *
          generalize l.take t = la at *
          have S1 := Lib.hid (fun N hN => seal_one HB3.out N hN)
          have S2 := Lib.hid (fun N hN => seal_one_drew HB3.out N hN)
          have A1 := Lib.hid (fun W a6 c6 (b : Below w3.heap.size w3 W) (h : BytesP W a6 c6 (four (crc la))) => agree_any a2 a6 c2 c6 lb (four (crc la)) W (HB2.out.below b) h)
          rw [show (four (crc la)).length = 4 from rfl] at A1
          have hg3 := Lib.hid (show w.heap.size < w3.heap.size from (Array.getElem?_eq_some_iff.1 HG3.out).1)
          go_wp2_with fail
          refine C2.out.mono ?_
          rintro e w4 ⟨rfl, rfl⟩
          go_wp2_with fail
          go_region_law (go_simp; first
            | (go_at_call 78; (first | refine (S1.out _ (by simp)).mono ?_ | refine (S2.out _ (by simp)).mono ?_); rintro e w6 ⟨a6, c6, rfl, hB6, b6⟩; have HB6 := Lib.hid hB6; have BB6 := Lib.hid b6; clear hB6 b6)
            | (go_at_call 88; refine (A1.out _ a6 c6 BB6.out HB6.out).mono ?_; rintro e w7 ⟨rfl, b7⟩; have B7 := Lib.hid (B3.out.trans ((BB6.out.trans (b7.mono BB6.out.size)).mono B3.out.size)); have HG7 := Lib.hid (show w7.heap[w.heap.size]? = some (.cells #[.int .u8 0, .slice none 0 0] 76) from ((BB6.out.trans (b7.mono BB6.out.size)).block _ hg3.out).trans HG3.out); clear b7))
          cases tE : agreeL lb (four (crc la)) with
          | false =>
            have HE := Lib.hid (show openL l = (0, [], 0, 62) by rw [HO2.out, if_pos tE])
            go_wp2_with (refine wpList_store_frame rfl _ _ rfl w.heap.size 0 none 0 0 rfl rfl _ _ HG7.out ?_)
            (try simp only [Exit.inBlock, Exit.then])
            refine bodyPost_ret (results_cell_tmp2 rfl _ _ w.heap.size _ rfl (load27 (setRow_heap _ _ _ _ _ _ HG7.out))) rfl ?_
            exact ⟨none, 0, by rw [HE.out]; rfl, by rw [HE.out]; exact BytesP.nil _ _ _, below_setRow B7.out (Nat.le_refl _) _, fun _ _ e => by cases e⟩
          | true =>
            rw [if_neg (by rw [tE]; simp)] at HO2
            obtain ⟨t4, ht4, HT4⟩ : ∃ t4 : Nat, (t : Int) + 4 = (t4 : Int) ∧ Hid (t + 4 = t4) := ⟨t + 4, by omega, rfl⟩
            rw [HT4.out] at HO2
            by_cases tF : l.length < t4
            · have HE := Lib.hid (show openL l = (0, [], 0, 61) by rw [HO2.out, if_pos tF])
              go_wp2_with (refine wpList_store_frame rfl _ _ rfl w.heap.size 0 none 0 0 rfl rfl _ _ HG7.out ?_)
              (try simp only [Exit.inBlock, Exit.then])
              refine bodyPost_ret (results_cell_tmp2 rfl _ _ w.heap.size _ rfl (load27 (setRow_heap _ _ _ _ _ _ HG7.out))) rfl ?_
              exact ⟨none, 0, by rw [HE.out]; rfl, by rw [HE.out]; exact BytesP.nil _ _ _, below_setRow B7.out (Nat.le_refl _) _, fun _ _ e => by cases e⟩
            · rw [if_neg tF] at HO2
              obtain ⟨b1, o1, ea, q1, r1⟩ := H.out.cell (by intro e; subst e; simp at h3)
              subst ea
              have g1 := (B7.out.cell (p := ⟨b1, o1 + 2, none⟩) q1).trans (r1 2 _ (List.getElem?_eq_getElem (show 2 < l.length by omega)))
              have p1 := H.out.cap
              have hi2 : (2 : Int) < (l.length : Int) := by omega
              have hx : l[2] < 256 := H.out.byte _ (List.getElem_mem (show 2 < l.length by omega))
              have HX := Lib.hid (show l.getD 2 0 = l[2] by rw [List.getD_eq_getElem?_getD, List.getElem?_eq_getElem (show 2 < l.length by omega)]; rfl)
              rw [HX.out] at HO2
              obtain ⟨a9, c9, s9, k9⟩ := slice_part (a := some ⟨b1, o1, none⟩) H.out.cap f t (f : Int) (t : Int) rfl rfl hft (by omega)
              have HB9 := Lib.hid (k9 w7 (H.out.below B7.out))
              have hlb : ((l.drop f).take (t - f)).length ≤ 1000000 := by rw [List.length_take, List.length_drop]; omega
              rw [← HTV.out] at HO2
              have HB9d := Lib.hid (HB9.out.below (Below.refl _ w7).drew)
              have q7 := (Array.getElem?_eq_some_iff.1 HG7.out).1
              generalize (l.drop f).take (t - f) = body at *
              generalize l[2] = x at *
              have K1 := Lib.hid (bclone_any a9 c9 body w7 HB9.out hlb)
              have K2 := Lib.hid (bclone_any a9 c9 body w7.drew HB9d.out hlb)
              obtain ⟨y1, y2, y3, y4⟩ := row_cell HG7.out
              have hwt4 : IntKind.i64.wrap (t4 : Int) = (t4 : Int) := by have := HT4.out; rw [IntKind.wrap_i64]; omega
              have hq1 := Lib.hid (Nat.lt_of_lt_of_le q1 B7.out.size)
              clear r1 k9 HX
              go_wp2_with fail
              go_region_law (go_simp; first
                | (go_at_call 59; (first | refine K1.out.mono ?_ | refine K2.out.mono ?_); rintro e w8 ⟨v8, rfl, o8, b8⟩; have b8 : Below w7.heap.size w7 w8 := ⟨b8.os, b8.tape, b8.output, b8.size, b8.block⟩; obtain ⟨a8, c8, rfl, hB8⟩ := o8.bytes HB9.out.byte; have O8 := Lib.hid o8; have B8 := Lib.hid b8; have g8 := (b8.cell (p := ⟨b1, o1 + 2, none⟩) hq1.out).trans g1; have HG8 := Lib.hid ((b8.block _ q7).trans HG7.out); obtain ⟨z1, z2, z3, z4⟩ := row_cell HG8.out; clear o8 b8 hB8))
              all_goals
                go_wp2_with fail
                (try simp only [Exit.inBlock, Exit.then])
                refine bodyPost_ret (results_cell_tmp2 rfl _ _ w.heap.size _ rfl (load27 (row_set HG8.out (.int .u8 (x : Int)) (.slice a8 body.length c8)))) rfl ?_
                have bw8 := B7.out.trans (B8.out.mono B7.out.size)
                refine ⟨a8, c8, by rw [HO2.out]; simp [Act.put], ?_, (bw8.setCell (p := ⟨w.heap.size, 0, none⟩) (Nat.le_refl _) _).setCell (p := ⟨w.heap.size, 1, none⟩) (Nat.le_refl _) _, fun b o e => Nat.le_trans B7.out.size (O8.out.row b (by cases e; rfl))⟩
                rw [HO2.out]
                have o9 : OwnB _ w7.heap.size (.slice a8 body.length c8) body := ownsRow_setCell_below (ownsRow_setCell_below O8.out (a := ⟨w.heap.size, 0, none⟩) q7 (.int .u8 (x : Int))) (a := ⟨w.heap.size, 1, none⟩) q7 (.slice a8 body.length c8)
                obtain ⟨a', c', e', hB'⟩ := o9.bytes HB9.out.byte
                injection e' with e1 _ e3
                subst e1 e3
                exact hB'

end Go.Proofs.Ytipikkniookanaa
