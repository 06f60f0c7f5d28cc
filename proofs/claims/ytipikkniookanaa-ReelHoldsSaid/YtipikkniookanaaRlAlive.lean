/- What the laws' reelAlive, the chapter's example, answers. -/
import Derived.Test.YtipikkniookanaaRlPair
namespace Go.Proofs.Ytipikkniookanaa
set_option maxRecDepth 100000
open Go.RowKit

theorem numC_zero (o : Nat) : numC zeroC o = 0 := by
  unfold numC zeroC
  have : ∀ l : List Nat, (∀ x ∈ l, x = 0) → numLE l = 0 := fun l => by
    induction l with
    | nil => intro _; rfl
    | cons x r ih => intro h; simp only [numLE]; rw [ih (fun y hy => h y (by simp [hy])), h x (by simp)]
  exact this _ (fun x hx => (List.mem_replicate.1 (List.mem_of_mem_drop (List.mem_of_mem_take hx))).2)
theorem top_zero (n : Nat) : topL (List.replicate n zeroC) = 0 := by
  have : topM (List.replicate n zeroC) = 0 := by
    induction n with
    | zero => rfl
    | succ n ih => simp only [List.replicate_succ, topM, ih, numC_zero]; rfl
  unfold topL
  rw [this]
theorem read_zero (n : Nat) (side : Int) : readL (List.replicate n zeroC) side = (0, []) := by
  have h := readL_top (List.replicate n zeroC) side
  rw [top_zero] at h
  unfold readL at h ⊢
  split
  · rename_i hs
    rw [if_pos hs] at h
    unfold readS at h ⊢
    split
    · rfl
    · rename_i h0
      rw [if_neg h0] at h
      exact absurd (Nat.le_zero.1 h) h0
  · rfl
theorem told_zero (n : Nat) : toldL (List.replicate n zeroC) = (1, 0, []) := by
  have h : ∀ side, rowOf (List.replicate n zeroC) side = (0, [], 0) := fun side => by
    unfold rowOf
    rw [read_zero]
    simp only [List.flatten_nil]
    rw [parse_zero (by rw [frameAt_nil])]
  unfold toldL told0
  rw [h 0, h 1]
  rfl
theorem cellsN_small {n : Nat} (h : n < 128) : cellsN n = (8 + n + 47) / 48 := by
  unfold cellsN
  rw [if_pos (by omega), numL_small h]
  rfl

/-- There is no room for a word. -/
theorem Rdy.addNo {r : Rl} {rd : Nat} {t x : List Nat} {ws : List (List Nat)} (h : Rdy r rd t ws) (hf : r.room - (piecesT t ws).length < cellsN x.length) : r.add x = (92, r) := by
  unfold Rl.add
  rw [h.ready, if_pos rfl, h.row]
  simp only
  rw [if_neg (by simp only [fitsB, Bool.and_eq_true, decide_eq_true_eq]; omega)]
theorem begin_no {r : Rl} {t : List Nat} (hf : r.room < cellsN t.length) : r.begin t = (92, r) := by
  unfold Rl.begin
  rw [if_neg (by simp only [fitsB, Bool.and_eq_true, decide_eq_true_eq]; omega)]
theorem piecesT_len {t : List Nat} {ws : List (List Nat)} (ht : t.length ≤ 65536) (hw : ∀ x ∈ ws, x.length ≤ 65536) : (piecesT t ws).length = cellsN t.length + (ws.map fun x => cellsN x.length).sum := by
  have h2 : (piecesW ws).length = (ws.map fun x => cellsN x.length).sum := by
    induction ws with
    | nil => rfl
    | cons x r ih =>
      have e : piecesW (x :: r) = chunksL (frameL 2 x) ++ piecesW r := by simp [piecesW]
      rw [e, List.length_append, frame_cells 2 (hw x (by simp)), ih (fun y hy => hw y (by simp [hy])), List.map_cons, List.sum_cons]
  rw [piecesT, List.length_append, frame_cells 1 ht, h2]

/-- A reel that was opened on a new plate. -/
def newRl (n : Nat) : Rl := ⟨Pl.new n, 1, false⟩
theorem new_begin {n : Nat} (hn : n ≤ 4096) {t : List Nat} (ht : Word t) (hf : cellsN t.length ≤ n / 2) :
    ∃ r', (newRl n).begin t = (0, r') ∧ Rdy r' 1 t [] ∧ r'.P.sure.length = n ∧ r'.side = 0 ∧ r'.P.loose.length = 0 := by
  have hc := cellsN_le t.length
  have htop : topL (newRl n).P.last = 0 := top_zero n
  have := begin_rdy (r := newRl n) (t := t) (Pl.Good.new hn) rfl rfl (Nat.le_refl _) ht (by simpa [Rl.room, newRl, Pl.new] using hf) (by rw [htop]; decide) (by simp [newRl, Pl.new]; omega)
  rw [htop] at this
  simpa [newRl, Pl.new] using this

theorem word_of {l : List Nat} (h : ∀ b ∈ l, b < 256) (hl : l.length ≤ 65536) : Word l := ⟨hl, h⟩
theorem word_one {x : Nat} (h : x < 256) : Word [x] := ⟨by simp, fun b hb => by simp at hb; omega⟩

theorem txt_a : strB [97] = ⟨#[97]⟩ := by decide +kernel
theorem txt_b : strB [98] = ⟨#[98]⟩ := by decide +kernel

set_option maxHeartbeats 4000000 in
theorem ralive_any (w : World) : Calls Try.prog 9 #[] w (TrueB w) := by
  have N := Lib.hid (Pair.newNo (w0 := w) (w := w) (L := fun _ => False) 8 (Below.refl _ _) (fun _ h => h.elim))
  have e8 : clampN 8 4096 = 8 := rfl
  rw [e8] at N
  clear e8
  have kc := fun (w : World) (C : Array Value) (n c : Nat) => Lib.run_convert_bytes_const (P := Try.prog) w 24 5 C n c Try.underlying24 Try.underlying5
  obtain ⟨r1, hb1, y1, n1, s1, l1⟩ := new_begin (n := 8) (by omega) (word_one (show 97 < 256 by decide)) (by rw [show ([97] : List Nat).length = 1 from rfl, cellsN_small (by omega)]; decide)
  have p1 : (piecesT [97] []).length = 1 := by
    show (chunksL (frameL 1 [97]) ++ piecesW []).length = 1
    rw [List.length_append, frame_cells 1 (by simp), show ([97] : List Nat).length = 1 from rfl, cellsN_small (by omega)]
    rfl
  obtain ⟨r2, ha2, y2, n2, s2, l2⟩ := y1.add (word_one (show 98 < 256 by decide)) (by rw [p1, show ([98] : List Nat).length = 1 from rfl, cellsN_small (by omega)]; unfold Rl.room; rw [n1]; decide) (by rw [l1, show ([98] : List Nat).length = 1 from rfl, cellsN_small (by omega)]; decide)
  obtain ⟨r3, hf3, y3, n3, s3, l3⟩ := y2.flush
  have p3 : (piecesT [97] [[98]]).length = 2 := by
    rw [show ([[98]] : List (List Nat)) = [] ++ [[98]] from rfl, piecesT_snoc, List.length_append, p1, frame_cells 2 (by simp), show ([98] : List Nat).length = 1 from rfl, cellsN_small (by omega)]
  have HT := Lib.hid y3.told
  have HLF := Lib.hid (show r3.left = 2 by rw [y3.leftN, List.nil_append, p3]; unfold Rl.room; rw [n3, n2, n1])
  have HRD := Lib.hid y3.ready
  have ll1 : r1.P.loose.length + 1366 ≤ 100000 := by omega
  rw [s3, s2, s1] at HT
  have HB1 := Lib.hid hb1
  have HA2 := Lib.hid ha2
  have HF3 := Lib.hid hf3
  have LL1 := Lib.hid ll1
  have s1' := Lib.hid s1
  clear hb1 ha2 hf3 y1 y2 y3 p1 p3 n1 n2 n3 s2 s3 l1 l2 l3 s1 ll1
  go_enter Try.func9, Try.ntmps9
  go_wp2_with fail
  refine N.out.mono ?_
  rintro e w1 ⟨g, rfl, h1, _⟩
  have CO := Lib.hid h1.openP
  have H1 := Lib.hid h1
  rw [show (Pl.new 8).last = List.replicate 8 zeroC from rfl, told_zero] at CO
  clear h1 N
  go_wp2_with fail
  refine CO.out.mono ?_
  rintro e w2 ⟨b, ta, tc, wa, wc, rfl, hn2, hv2, _, _, b2⟩
  have h2 := H1.out.toReel stays_no b2 hn2 hv2
  have H2 := Lib.hid (show Pair w w2 (atRl b g (newRl 8)) noB (fun _ => False) from h2)
  have CR := Lib.hid H2.out.rready
  clear h2 hv2 b2 H1 CO hn2
  rw [show (newRl 8).ready = false from rfl] at CR
  have bA := (Below.refl w2.heap.size w2).alloc (Nat.le_refl _) (.cells #[.int .u8 97] 5 (1, 2))
  have C2 := Lib.hid (show Calls Try.prog 14 #[ptr b, .slice (some ⟨w2.heap.size, 0, none⟩) 1 1] (w2.alloc (.cells #[.int .u8 97] 5 (1, 2))) (fun e w' => e = .returned (.int .i64 0) ∧ Pair w w' (atRl b g r1) noB (fun _ => False)) by
    have := (H2.out.more (stays_rl _ _ _) stays_no bA).rbegin stays_no (some ⟨w2.heap.size, 0, none⟩) 1 [97] (bytes_block [97] (fun b hb => by simp at hb; omega) (by simp) w2 5 (1, 2)) (Nat.le_refl _) (by simp [newRl, Pl.new])
    rw [HB1.out] at this
    exact this.mono fun _ _ ⟨e, h, _⟩ => ⟨e, h⟩)
  clear bA
  go_wp2_with fail
  refine CR.out.mono ?_
  rintro e w' ⟨rfl, rfl⟩
  go_wp2_with fail
  refine C2.out.mono ?_
  rintro e w3 ⟨rfl, h3⟩
  have bB := (Below.refl w3.heap.size w3).alloc (Nat.le_refl _) (.cells #[.int .u8 98] 5 (1, 2))
  have C3 := Lib.hid (show Calls Try.prog 12 #[ptr b, .slice (some ⟨w3.heap.size, 0, none⟩) 1 1] (w3.alloc (.cells #[.int .u8 98] 5 (1, 2))) (fun e w' => e = .returned (.int .i64 0) ∧ Pair w w' (atRl b g r2) noB (fun _ => False)) by
    have := (h3.more (stays_rl _ _ _) stays_no bB).radd stays_no (some ⟨w3.heap.size, 0, none⟩) 1 [98] (bytes_block [98] (fun b hb => by simp at hb; omega) (by simp) w3 5 (1, 2)) LL1.out
    rw [HA2.out] at this
    exact this.mono fun _ _ ⟨e, h, _⟩ => ⟨e, h⟩)
  clear bB h3 C2 CR H2
  go_wp2_with fail
  refine C3.out.mono ?_
  rintro e w4 ⟨rfl, h4⟩
  have C4 := Lib.hid (show Calls Try.prog 13 #[ptr b] w4 (fun e w' => e = .returned (.int .i64 0) ∧ Pair w w' (atRl b g r3) noB (fun _ => False)) by
    have := h4.rflush stays_no
    rw [HF3.out] at this
    exact this.mono fun _ _ ⟨e, h, _⟩ => ⟨e, h⟩)
  clear h4 C3
  go_wp2_with fail
  refine C4.out.mono ?_
  rintro e w5 ⟨rfl, h5⟩
  have C5 := Lib.hid h5.openR
  rw [HT.out] at C5
  have H5 := Lib.hid h5
  clear h5 C4
  go_wp2_with fail
  refine C5.out.mono ?_
  rintro e w6 ⟨b6, a6, c6, wa6, wc6, rfl, _, _, hB6, hL6, b6'⟩
  have h6 := H5.out.more (stays_rl _ _ _) stays_no b6'
  have C6 := Lib.hid h6.rready
  have C7 := Lib.hid h6.rleft
  rw [HRD.out] at C6
  rw [HLF.out] at C7
  have HLOW := Lib.hid h6.low
  have RT := run_text hB6
  obtain ⟨bb, oo, rfl, hbb, hcc⟩ := hL6.cell (by simp)
  obtain ⟨a', c', g1, gB⟩ := hcc 0 [98] rfl
  have RT2 := run_text gB
  have hcap := hL6.cap
  simp only [List.headD_cons, List.length_cons, List.length_nil, Nat.zero_add, Nat.add_zero, List.tail_cons] at RT RT2 g1 hcap
  rw [txt_a] at RT
  rw [txt_b] at RT2
  clear hB6 hL6 b6' h6 gB hcc H5 C5
  go_wp2_with fail
  refine C6.out.mono ?_
  rintro e w7 ⟨rfl, rfl⟩
  go_wp2_with fail
  refine C7.out.mono ?_
  rintro e w8 ⟨rfl, b8⟩
  go_wp2_with fail
  go_ret
  exact ⟨rfl, HLOW.out.trans (b8.mono HLOW.out.size)⟩

end Go.Proofs.Ytipikkniookanaa
