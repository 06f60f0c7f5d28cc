/- What stands on a side: rows of bodies of the call's own; what Concat of nothing and rowOn of package reel answer. -/
import Derived.Test.YtipikkniookanaaRlLeaf
namespace Go.Proofs.Ytipikkniookanaa
set_option maxRecDepth 100000
open Go.RowKit

/-- A row of lists of bytes of the call's own. -/
def OwnG (w : World) (base : Nat) (v : Value) (ls : List (List Nat)) : Prop :=
  ∃ vs : List Value, vs.length = ls.length ∧ w.ownsRow base 24 1 v ls.length vs ∧ ∀ (j : Nat) (l : List Nat), ls[j]? = some l → ∃ a c, vs[j]? = some (.slice a l.length c) ∧ BytesP w a c l ∧ (l ≠ [] → ∀ b o, a = some ⟨b, o, none⟩ → base ≤ b ∧ v.ownBlock ≠ some b)

theorem ownG_nil (w : World) (base : Nat) : OwnG w base (.slice none 0 0) [] := ⟨[], rfl, World.ownsRow_nil w base _ 1, fun j l h => by simp at h⟩

/-- Where all behind base is as it was, it is. -/
theorem OwnG.keep {w w' : World} {base : Nat} {v : Value} {ls : List (List Nat)} (h : OwnG w base v ls) (hs : w.heap.size ≤ w'.heap.size) (hb : ∀ k, base ≤ k → k < w.heap.size → w'.heap[k]? = w.heap[k]?) : OwnG w' base v ls := by
  obtain ⟨vs, hl, ho, hc⟩ := h
  refine ⟨vs, hl, ownsRow_same ho (fun k hk => hb k (ho.lt k hk).1 (ho.lt k hk).2), fun j l hj => ?_⟩
  obtain ⟨a, c, h1, h2, h3⟩ := hc j l hj
  refine ⟨a, c, h1, ⟨h2.cap, h2.len, h2.byte, fun hne => ?_⟩, h3⟩
  obtain ⟨b, o, e, hlt, hx⟩ := h2.cell hne
  exact ⟨b, o, e, Nat.lt_of_lt_of_le hlt hs, fun i x hi => (World.cell?_of_block (a := ⟨b, o + i, none⟩) (hb b (h3 hne b o e).1 hlt)).trans (hx i x hi)⟩
theorem OwnG.below {w w' : World} {base : Nat} {v : Value} {ls : List (List Nat)} (h : OwnG w base v ls) (hb : Below w.heap.size w w') : OwnG w' base v ls := h.keep hb.size (fun k _ hk => hb.block k hk)

theorem OwnG.base {w : World} {base base' : Nat} {v : Value} {ls : List (List Nat)} (h : OwnG w base v ls) (hb : base' ≤ base) : OwnG w base' v ls := by
  obtain ⟨vs, hl, ho, hc⟩ := h
  refine ⟨vs, hl, ownsRow_base ho (fun k hk => Nat.le_trans hb (ho.lt k hk).1), fun j l hj => ?_⟩
  obtain ⟨a, c, h1, h2, h3⟩ := hc j l hj
  exact ⟨a, c, h1, h2, fun hne b o e => ⟨Nat.le_trans hb (h3 hne b o e).1, (h3 hne b o e).2⟩⟩

theorem OwnG.lists {w : World} {base : Nat} {v : Value} {ls : List (List Nat)} (h : OwnG w base v ls) (hn : ls.length ≤ 1000000) : ∃ a cap, v = .slice a ls.length cap ∧ LLP w a cap ls := by
  obtain ⟨vs, hl, ho, hc⟩ := h
  rcases ho.2 with ⟨rfl, h0⟩ | ⟨g, cap, cur, rfl, h1, h2, h3, h4, h5, h6⟩
  · have := List.eq_nil_of_length_eq_zero h0
    subst this
    exact ⟨none, 0, rfl, by simp, by simp, fun h => absurd rfl h⟩
  · refine ⟨_, cap, rfl, h3, hn, fun _ => ⟨g, 0, rfl, (Array.getElem?_eq_some_iff.1 h2).1, fun j l hj => ?_⟩⟩
    obtain ⟨a, c, e1, e2, _⟩ := hc j l hj
    exact ⟨a, c, by have := ho.cells (g := g) rfl j _ e1; rwa [add_at] at this, e2⟩

/-- One list more. -/
theorem OwnG.push {w : World} {base : Nat} {v : Value} {ls : List (List Nat)} (h : OwnG w base v ls) (hbase : base ≤ w.heap.size) {l : List Nat} {a : Option Addr} {c : Nat} (hB : BytesP w a c l) (hv : l ≠ [] → ∀ b o, a = some ⟨b, o, none⟩ → base ≤ b ∧ v.ownBlock ≠ some b) (hn : ls.length < 100000) (ty : TypeId) :
    ∃ a' c' w', ApR 25 ty v (.slice (some ⟨w.heap.size, 0, none⟩) 1 1) (w.alloc (.cells #[.slice a l.length c] 24)) = .ok (.value (.slice a' (ls.length + 1) c')) w' ∧ OwnG w' base (.slice a' (ls.length + 1) c') (ls ++ [l]) ∧ Below base w w' := by
  obtain ⟨vs, hl, ho, hc⟩ := h
  have hW : Below w.heap.size w (w.alloc (.cells #[.slice a l.length c] 24)) := (Below.refl w.heap.size w).alloc (Nat.le_refl _) _
  have ho1 : (w.alloc (.cells #[.slice a l.length c] 24)).ownsRow 0 24 1 v ls.length vs := ownsRow_base (ownsRow_same ho (fun k hk => hW.block k (ho.lt k hk).2)) (fun k _ => Nat.zero_le k)
  have hnew : RowAt (w.alloc (.cells #[.slice a l.length c] 24)) w.heap.size 24 [.slice a l.length c] := RowAt.of (heap_alloc_new w _)
  obtain ⟨v', w', h1, h2, h3, h4⟩ := ap_own 25 ty 24 1 24 _ (by omega) infoB Try.underlying25 rfl v ls.length vs ho1 w.heap.size 1 1 24 _ hnew rfl (fun u hu => by simp at hu; subst hu; rfl) (by omega) (by omega)
  have hb' : ∀ k, v'.ownBlock = some k → base ≤ k := fun k hk => by
    rcases h4 k hk with h | h
    · exact (ho.lt k h).1
    · have := hW.size; omega
  obtain ⟨a', c', rfl, _⟩ := own_slice h2
  refine ⟨a', c', w', h1, ⟨vs ++ [.slice a l.length c], by simp [hl], ?_, fun j m hj => ?_⟩, (hW.mono hbase).grown h3 (Nat.le_trans hbase hW.size) (fun k hk => (ho.lt k hk).1)⟩
  · rw [List.length_append]
    exact ownsRow_base h2 hb'
  · have hkeep : ∀ k, k < w.heap.size → v.ownBlock ≠ some k → w'.heap[k]? = w.heap[k]? := fun k hk hne => (h3.block k (Nat.lt_of_lt_of_le hk hW.size) (fun e => hne e.symm)).trans (hW.block k hk)
    have hsz : w.heap.size ≤ w'.heap.size := Nat.le_trans hW.size h3.size
    have hfar : ∀ k, k < w.heap.size → v.ownBlock ≠ some k → (Value.slice a' (ls.length + 1) c').ownBlock ≠ some k := fun k hk hne e => by
      rcases h4 k e with h | h
      · exact hne h
      · have := hW.size; omega
    have hone : ∀ {a : Option Addr} {d : Nat} {x : List Nat}, BytesP w a d x → (x ≠ [] → ∀ b o, a = some ⟨b, o, none⟩ → base ≤ b ∧ v.ownBlock ≠ some b) → BytesP w' a d x ∧ (x ≠ [] → ∀ b o, a = some ⟨b, o, none⟩ → base ≤ b ∧ (Value.slice a' (ls.length + 1) c').ownBlock ≠ some b) := fun {a d x} hx hy => by
      refine ⟨⟨hx.cap, hx.len, hx.byte, fun hxn => ?_⟩, fun hxn b o e => ?_⟩
      · obtain ⟨b2, o2, e, h5, h6⟩ := hx.cell hxn
        exact ⟨b2, o2, e, Nat.lt_of_lt_of_le h5 hsz, fun i y hi => (World.cell?_of_block (a := ⟨b2, o2 + i, none⟩) (hkeep b2 h5 (hy hxn b2 o2 e).2)).trans (h6 i y hi)⟩
      · obtain ⟨b2, o2, e2, h5, h6⟩ := hx.cell hxn
        rw [e] at e2
        injection e2 with e2
        injection e2 with e3 _
        subst e3
        exact ⟨(hy hxn b o e).1, hfar b h5 (hy hxn b o e).2⟩
    by_cases hjl : j < ls.length
    · rw [List.getElem?_append_left hjl] at hj
      obtain ⟨a2, c2, e1, e2, e3⟩ := hc j m hj
      exact ⟨a2, c2, by rw [List.getElem?_append_left (by omega)]; exact e1, hone e2 e3⟩
    · rw [List.getElem?_append_right (by omega)] at hj
      have hj0 : j - ls.length = 0 := by
        have := (List.getElem?_eq_some_iff.1 hj).1
        simp at this
        omega
      rw [hj0] at hj
      simp at hj
      subst hj
      exact ⟨a, c, by rw [List.getElem?_append_right (by omega), hl, hj0]; rfl, hone hB hv⟩

theorem LLP.parts {w : World} {a : Option Addr} {cap : Nat} {ls : List (List Nat)} (h : LLP w a cap ls) : ∃ ps : List Part, ps.length = ls.length ∧ flat ps = ls.flatten ∧ ListsP w a cap ps := by
  by_cases hne : ls = []
  · subst hne
    exact ⟨[], rfl, rfl, ListsP.nil _ _ _⟩
  · obtain ⟨b, o, e, hlt, hc⟩ := h.cell hne
    have hx : ∀ j : Nat, ∃ p : Part, ∀ l, ls[j]? = some l → p.l = l ∧ w.cell? ⟨b, o + j, none⟩ = some (.slice p.a p.l.length p.cap) ∧ BytesP w p.a p.cap p.l := fun j => by
      cases hj : ls[j]? with
      | none => exact ⟨⟨none, 0, []⟩, fun l e => by cases e⟩
      | some l =>
        obtain ⟨a', c', h1, h2⟩ := hc j l hj
        refine ⟨⟨a', c', l⟩, fun m e => ?_⟩
        injection e with e
        subst e
        exact ⟨rfl, h1, h2⟩
    obtain ⟨f, hf⟩ := Classical.axiomOfChoice hx
    have hg : ∀ (j : Nat) (p : Part), ((List.range ls.length).map f)[j]? = some p → ∃ l, ls[j]? = some l ∧ p = f j := fun j p hp => by
      rw [List.getElem?_map] at hp
      by_cases hj : j < ls.length
      · rw [List.getElem?_range hj] at hp
        exact ⟨_, List.getElem?_eq_getElem hj, by simpa using hp.symm⟩
      · rw [List.getElem?_eq_none (by simpa using hj)] at hp
        cases hp
    have hm : ((List.range ls.length).map f).map (·.l) = ls := by
      apply List.ext_getElem?
      intro j
      rw [List.map_map, List.getElem?_map]
      by_cases hj : j < ls.length
      · rw [List.getElem?_range hj]
        simp only [Option.map_some, Function.comp]
        rw [(hf j _ (List.getElem?_eq_getElem hj)).1, List.getElem?_eq_getElem hj]
      · rw [List.getElem?_eq_none (by simpa using hj), List.getElem?_eq_none (by simpa using hj)]
        rfl
    refine ⟨(List.range ls.length).map f, by simp, by unfold flat; rw [hm], by simpa using h.cap, by simpa using Nat.le_trans h.len (by decide), fun p hp => ?_, fun _ => ⟨b, o, e, hlt, fun j p hp => ?_⟩⟩
    · obtain ⟨j, hj⟩ := List.mem_iff_getElem?.1 hp
      obtain ⟨l, h1, rfl⟩ := hg j p hj
      exact (hf j l h1).2.2
    · obtain ⟨l, h1, rfl⟩ := hg j p hp
      exact (hf j l h1).2.1

set_option maxHeartbeats 2000000 in
theorem grow_none (w : World) : Calls Try.prog 75 #[.slice none 0 0, .int .i64 0] w (fun e w' => e = .returned (.slice none 0 0) ∧ w = w') := by
  go_enter Try.func75, Try.ntmps75
  go_wp2_with fail
  go_ret
  exact ⟨rfl, rfl⟩

set_option maxHeartbeats 2000000 in
theorem concat_none (a : Option Addr) (cap : Nat) (w : World) : Calls Try.prog 50 #[.slice a 0 cap] w (fun e w' => e = .returned (.slice none 0 0) ∧ w = w') := by
  have C := Lib.hid (grow_none w)
  go_enter Try.func50, Try.ntmps50
  go_wp2_with fail
  go_loop [3, 11] (fun s i => i = .int .i64 0 ∧ s = .int .i64 0) (fun _ i => 0)
  case atStart => exact ⟨rfl, rfl⟩
  case round =>
    obtain ⟨rfl, rfl⟩ := hrel
    go_wp2_with fail
    refine C.out.mono ?_
    rintro e w1 ⟨rfl, rfl⟩
    go_wp2_with fail
    go_loop [6, 27] (fun s i => i = .int .i64 0 ∧ s = .slice none 0 0) (fun _ i => 0)
    case atStart => exact ⟨rfl, rfl⟩
    case round =>
      obtain ⟨rfl, rfl⟩ := hrel
      go_wp2_with fail
      go_ret
      exact ⟨rfl, rfl⟩

/-- A round, cells and bodies are answered; all that was there stays. -/
def RowPost (r : Nat × List (List Nat) × Nat) (w : World) (e : Ending) (w' : World) : Prop :=
  ∃ a c, e = .returned (.agg #[.int .u64 (r.1 : Int), .int .i64 (r.2.2 : Int), .slice a r.2.1.length c]) ∧ OwnG w' w.heap.size (.slice a r.2.1.length c) r.2.1 ∧ Below w.heap.size w w'

/-- A local variable that is a row. -/
def RowV (w : World) (g : Nat) (x y z : Value) : Prop := w.heap[g]? = some (.cells #[x, y, z] 64 (0, 0))

theorem RowV.new (w : World) (x y z : Value) : RowV (w.alloc (.cells #[x, y, z] 64)) w.heap.size x y z := heap_alloc_new w _
theorem RowV.cells {w : World} {g : Nat} {x y z : Value} (h : RowV w g x y z) : w.cell? ⟨g, 0, none⟩ = some x ∧ w.cell? ⟨g, 1, none⟩ = some y ∧ w.cell? ⟨g, 2, none⟩ = some z ∧ w.frozen? ⟨g, 0, none⟩ = false ∧ w.frozen? ⟨g, 1, none⟩ = false ∧ w.frozen? ⟨g, 2, none⟩ = false := by
  unfold RowV at h
  simp [World.cell?, World.frozen?, h]
theorem RowV.lt {w : World} {g : Nat} {x y z : Value} (h : RowV w g x y z) : g < w.heap.size := (Array.getElem?_eq_some_iff.1 h).1
theorem RowV.same {w w' : World} {g : Nat} {x y z : Value} (h : RowV w g x y z) (hb : w'.heap[g]? = w.heap[g]?) : RowV w' g x y z := hb.trans h
theorem RowV.set0 {w : World} {g : Nat} {x y z : Value} (h : RowV w g x y z) (v : Value) : RowV (w.setCell ⟨g, 0, none⟩ v) g v y z := by
  unfold RowV at *
  rw [heap_setCell_same w g 0 _ _ _ h]
  rfl
theorem RowV.set1 {w : World} {g : Nat} {x y z : Value} (h : RowV w g x y z) (v : Value) : RowV (w.setCell ⟨g, 1, none⟩ v) g x v z := by
  unfold RowV at *
  rw [heap_setCell_same w g 1 _ _ _ h]
  rfl
theorem RowV.set2 {w : World} {g : Nat} {x y z : Value} (h : RowV w g x y z) (v : Value) : RowV (w.setCell ⟨g, 2, none⟩ v) g x y v := by
  unfold RowV at *
  rw [heap_setCell_same w g 2 _ _ _ h]
  rfl

theorem size64 (a b c : Value) : (Try.prog.info? 64).map (·.size) = some #[a, b, c].size := by
  show _ = some 3
  kernel_rfl
theorem load64 {w : World} {g : Nat} {x y z : Value} (hg : RowV w g x y z) : (loadVar 64 ⟨g, 0, none⟩).run Try.prog w = .ok (.agg #[x, y, z]) w :=
  run_loadVar_row w g 64 64 #[x, y, z] (0, 0) _ hg Try.underlying64 rfl (size64 x y z)
theorem results_one_cell {fn : Func} {p : Tmp} {ty : TypeId} (h : fn.results = #[.cell p ty]) (tmps : Array Value) (w : World) (g : Nat) (cs : Array Value)
    (hp : tmps.getD p undef = .pointer (some ⟨g, 0, none⟩)) (hl : (loadVar ty ⟨g, 0, none⟩).run Try.prog w = .ok (.agg cs) w) :
    (results fn tmps).run Try.prog w = .ok (.agg cs) w := by
  have hp' : tmps[p]?.getD undef = .pointer (some ⟨g, 0, none⟩) := by simpa using hp
  simp [results, h, hp', asAddr, hl]

def sliceLen : Value → Nat
  | .slice _ n _ => n
  | _ => 0

attribute [local go_sem ↓] apLL

set_option maxHeartbeats 4000000 in
theorem rowOn_any {w : World} {R : Nat → Prop} {g bs bl : Nat} {lv : Value} {P : Pl} (h : PlM w R g bs bl lv P) (side : Int) : Calls Try.prog 30 #[ptr g, .int .i64 side] w (RowPost (rowOf P.last side) w) := by
  have CR := Lib.hid (read_any (h.alloc (.cells #[.int .u64 0, .int .i64 0, .slice none 0 0] 64)) side)
  have hcl := h.good.cl
  have hfl := readL_flat hcl side
  have hrl := readL_len P.last side
  have hm := h.good.most
  have HR := Lib.hid (show rowOf P.last side = ((readL P.last side).1, parse 1 (readL P.last side).2.flatten) from rfl)
  have hsz := h.good.size
  obtain ⟨rd, ins, hri⟩ : ∃ rd ins, readL P.last side = (rd, ins) := ⟨_, _, rfl⟩
  rw [hri] at CR hfl hrl HR
  dsimp only at hfl hrl HR
  have HF := Lib.hid hfl
  have hil : ins.length ≤ 4096 := by omega
  have V0 := Lib.hid (RowV.new w (.int .u64 0) (.int .i64 0) (.slice none 0 0))
  have bw := Lib.hid ((Below.refl w.heap.size w).alloc (Nat.le_refl _) (.cells #[.int .u64 0, .int .i64 0, .slice none 0 0] 64))
  clear h hcl hfl hrl hm hri hsz
  go_enter Try.func30, Try.ntmps30
  go_wp2_with fail
  refine CR.out.mono ?_
  rintro e w1 ⟨a1, c1, rfl, hL1, b1⟩
  have V1 := Lib.hid (V0.out.same (b1.block _ V0.out.lt))
  have B1 := Lib.hid (bw.out.trans (b1.mono bw.out.size))
  obtain ⟨ps, hp1, hp2, hp3⟩ := hL1.parts
  have CC : Calls Try.prog 50 #[.slice a1 ins.length c1] w1 (fun e w' => ∃ a c, e = .returned (.slice a ins.flatten.length c) ∧ BytesP w' a c ins.flatten ∧ Below w1.heap.size w1 w') := by
    by_cases h0 : ins.length = 0
    · have := List.eq_nil_of_length_eq_zero h0
      subst this
      refine (concat_none a1 c1 w1).mono ?_
      rintro e w' ⟨rfl, rfl⟩
      exact ⟨none, 0, rfl, BytesP.nil _ _ _, Below.refl _ _⟩
    · rw [← hp1]
      refine (concat_any a1 c1 ps w1 hp3 (by rw [hp2, HF.out.2]; omega) (by rw [hp2, HF.out.2]; omega)).mono ?_
      rintro e w' ⟨v, rfl, ho, hb⟩
      rw [hp2] at ho
      obtain ⟨a, c, rfl, hB⟩ := ho.bytes HF.out.1
      exact ⟨a, c, rfl, hB, hb⟩
  have CC := Lib.hid CC
  clear hL1 b1 ps hp1 hp2 hp3
  have HBL := Lib.hid HF.out.2
  generalize ins.flatten = B at *
  go_wp2_with fail
  refine CC.out.mono ?_
  rintro e w2 ⟨a2, c2, rfl, hB2, b2⟩
  have hne : w.heap.size ≠ w2.heap.size := by have := Nat.lt_of_lt_of_le V1.out.lt b2.size; omega
  have HNE := Lib.hid hne
  have bn := (Below.refl w2.heap.size w2).alloc (Nat.le_refl _) (.cells #[.int .u64 (rd : Int), .int .i64 0, .slice none 0 0] 64)
  have V2 := Lib.hid ((V1.out.same (b2.block _ V1.out.lt)).same (bn.block _ (Nat.lt_of_lt_of_le V1.out.lt b2.size)))
  have V3 := Lib.hid (RowV.new w2 (.int .u64 (rd : Int)) (.int .i64 0) (.slice none 0 0))
  have B3 := Lib.hid ((B1.out.trans (b2.mono B1.out.size)).trans (bn.mono (Nat.le_trans B1.out.size b2.size)))
  have hg8 : w2.heap.size < (w2.alloc (.cells #[.int .u64 (rd : Int), .int .i64 0, .slice none 0 0] 64)).heap.size := by simp
  have HG8 := Lib.hid hg8
  have hw0 := Lib.hid (Nat.lt_of_lt_of_le V1.out.lt b2.size)
  have HB2 := Lib.hid hB2
  have B23 := Lib.hid bn
  have bww := Lib.hid (Nat.le_trans B1.out.size b2.size)
  clear CC CR HF V0 bw V1 B1 hB2 b2 hne bn hg8
  go_wp2_with fail
  generalize w2.alloc (.cells #[.int .u64 (rd : Int), .int .i64 0, .slice none 0 0] 64) = w3 at *
  go_loopw [7, 9] (fun s kd wr => ∃ (l : List Nat) (a : Option Addr) (c n q k : Nat) (ls : List (List Nat)) (la : Option Addr) (lc : Nat), s = .slice a l.length c ∧ kd = .int .u8 (k : Int) ∧ Hid (BytesP w2 a c l) ∧ Hid (l.length = n * 48) ∧ Hid (q + n ≤ ins.length) ∧ Hid (ls.length ≤ q) ∧ Hid (RowV wr w2.heap.size (.int .u64 (rd : Int)) (.int .i64 (q : Int)) (.slice la ls.length lc)) ∧ Hid (OwnG wr w3.heap.size (.slice la ls.length lc) ls) ∧ Hid (Keep (· = w2.heap.size) w3 wr) ∧ Hid (parse 1 B = (ls ++ (parse k l).1, q + (parse k l).2))) (fun s _ _ => sliceLen s)
  case atStart =>
    exact ⟨B, a2, c2, ins.length, 0, 1, [], none, 0, rfl, rfl, HB2, HBL, Lib.hid (by omega), Lib.hid (by simp), V3, Lib.hid (ownG_nil _ _), Lib.hid (Keep.refl _ _), Lib.hid (by simp)⟩
  case round =>
    obtain ⟨l, a, c, n, q, k, ls, la, lc, rfl, rfl, HBB, HLN, HQ, HLS, HV, HO, HK, HP⟩ := hrel
    have HBR := Lib.hid (B23.out.trans (HK.out.below (B := w2.heap.size) B23.out.size (fun k e => by subst e; exact Nat.le_refl _)))
    have HB := Lib.hid (HBB.out.below HBR.out)
    have hql : q ≤ 4096 := by have := HQ.out; omega
    have hnl : n ≤ 4096 := by have := HQ.out; omega
    have hl1 : l.length ≤ 1000000 := by have := HLN.out; omega
    have CF := Lib.hid (frameAt_any a c l k wr HB.out hl1 HLN.out)
    have HFL := Lib.hid (frameAt_le HB.out.byte HLN.out k)
    have HPU := Lib.hid (show parse k l = if (frameAtL l k).2 = 0 ∨ l.length = 0 then ([], 0) else ((frameAtL l k).1 :: (parse 2 (l.drop ((frameAtL l k).2 * 48))).1, (frameAtL l k).2 + (parse 2 (l.drop ((frameAtL l k).2 * 48))).2) by rw [parse]; split <;> rfl)
    have VW := Lib.hid (V2.out.same (HK.out.block _ V2.out.lt HNE.out))
    obtain ⟨body, cs, hbc⟩ : ∃ body cs, frameAtL l k = (body, cs) := ⟨_, _, rfl⟩
    rw [hbc] at CF HFL HPU
    dsimp only at HFL HPU
    have hhl := hl1
    clear hbc
    have BW := Lib.hid (B3.out.trans (HK.out.below (B := w.heap.size) B3.out.size (fun k e => by subst e; exact bww.out)))
    by_cases h0 : cs = 0
    · subst h0
      have HE := Lib.hid (show rowOf P.last side = (rd, ls, q) by rw [HR.out, HP.out, HPU.out]; simp)
      go_wp2_with fail
      refine CF.out.mono ?_
      rintro e w4 ⟨a4, c4, rfl, hB4, b4, n4⟩
      have hV4 := HV.out.same (b4.block _ HV.out.lt)
      have hW4 := VW.out.same (b4.block _ VW.out.lt)
      obtain ⟨f0, f1, f2, _⟩ := hV4.cells
      obtain ⟨_, _, _, z0, z1, z2⟩ := hW4.cells
      have hV5 := ((hW4.set0 (.int .u64 (rd : Int))).set1 (.int .i64 (q : Int))).set2 (.slice la ls.length lc)
      have bw4 := BW.out.trans (b4.mono BW.out.size)
      have hO5 := HO.out.below b4
      have bs4 := Nat.le_trans HK.out.size b4.size
      have hw3' : w.heap.size < w3.heap.size := V2.out.lt
      have hw3 := hw3'
      clear HO HV VW HB
      go_wp2_with fail
      (try simp only [Exit.inBlock, Exit.then])
      refine bodyPost_ret (results_one_cell rfl _ _ w.heap.size _ rfl (load64 hV5)) rfl ?_
      have hO6 := hO5.keep (w' := ((w4.setCell ⟨w.heap.size, 0, none⟩ (.int .u64 (rd : Int))).setCell ⟨w.heap.size, 1, none⟩ (.int .i64 (q : Int))).setCell ⟨w.heap.size, 2, none⟩ (.slice la ls.length lc)) (by simp [World.setCell]) (fun k hk _ => by
        have hk0 : k ≠ w.heap.size := by omega
        rw [heap_setCell_other _ _ _ _ hk0, heap_setCell_other _ _ _ _ hk0, heap_setCell_other _ _ _ _ hk0])
      exact ⟨_, _, by rw [HE.out], by rw [HE.out]; exact hO6.base (Nat.le_of_lt hw3'), ((bw4.setCell (p := ⟨w.heap.size, 0, none⟩) (Nat.le_refl _) _).setCell (p := ⟨w.heap.size, 1, none⟩) (Nat.le_refl _) _).setCell (p := ⟨w.heap.size, 2, none⟩) (Nat.le_refl _) _⟩
    · have hcs : ((cs : Int) == 0) = false := by simp; omega
      obtain ⟨kk, hkk, HKK⟩ : ∃ kk : Nat, (cs : Int) * 48 = (kk : Int) ∧ Hid (kk = cs * 48) := ⟨cs * 48, by omega, rfl⟩
      have hkl : kk ≤ l.length := by rw [HKK.out]; exact HFL.out
      obtain ⟨a6, c6, s6, p6⟩ := slice_from (a := a) HB.out.cap kk (kk : Int) rfl hkl
      have hl0 : l ≠ [] := by intro e; subst e; have := HFL.out; simp at this; omega
      have HE := Lib.hid (show parse 1 B = ((ls ++ [body]) ++ (parse 2 (l.drop kk)).1, (q + cs) + (parse 2 (l.drop kk)).2) by
        rw [HP.out, HPU.out, if_neg (by have := List.length_pos_iff.2 hl0; omega), HKK.out]
        simp [Nat.add_assoc])
      have hln : (l.drop kk).length = (n - cs) * 48 := by rw [List.length_drop, HLN.out, HKK.out, Nat.sub_mul]
      have HLN2 := Lib.hid hln
      have hcn : cs ≤ n := by have := HFL.out; have := HLN.out; omega
      have hlt : (l.drop kk).length < l.length := by rw [List.length_drop]; have := List.length_pos_iff.2 hl0; have := HKK.out; omega
      have HLT := Lib.hid hlt
      have HB6 := Lib.hid (p6 _ HBB.out)
      clear p6 hln hlt
      generalize l.drop kk = l2 at *
      have hls := HLS.out
      go_wp2_with fail
      refine CF.out.mono ?_
      rintro e w4 ⟨a4, c4, rfl, hB4, b4, n4⟩
      have hV4 := HV.out.same (b4.block _ HV.out.lt)
      obtain ⟨f0, f1, f2, _⟩ := hV4.cells
      have bs4 := Nat.le_trans HK.out.size b4.size
      obtain ⟨a5, c5, w5, hap, hO5, b5⟩ := (HO.out.below b4).push bs4 hB4 (fun _ b o e => ⟨Nat.le_trans HK.out.size (n4 b o e), fun e2 => by
        obtain ⟨vs, _, ho, _⟩ := HO.out
        have := (ho.lt b e2).2
        have := n4 b o e
        omega⟩) (by omega) 25
      have hV5 := hV4.same (b5.block _ HG8.out)
      obtain ⟨g0, g1, g2, z0, z1, z2⟩ := hV5.cells
      have hV6 := hV5.set2 (.slice a5 (ls.length + 1) c5)
      obtain ⟨k0, k1, k2, y0, y1, y2⟩ := hV6.cells
      have hV7 := hV6.set1 (.int .i64 ((q : Int) + (cs : Int)))
      have hO7 := hO5.keep (w' := (w5.setCell ⟨w2.heap.size, 2, none⟩ (.slice a5 (ls.length + 1) c5)).setCell ⟨w2.heap.size, 1, none⟩ (.int .i64 ((q : Int) + (cs : Int)))) (by simp [World.setCell]) (fun k hk _ => by
        have hk0 : k ≠ w2.heap.size := by have := HG8.out; omega
        rw [heap_setCell_other _ _ _ _ hk0, heap_setCell_other _ _ _ _ hk0])
      have hK5 : Keep (· = w2.heap.size) w3 w5 := by
        have h := HK.out.of_below b4
        exact ⟨b5.os.trans h.os, b5.tape.trans h.tape, b5.output.trans h.output, Nat.le_trans h.size b5.size, fun k hk hr => (b5.block k hk).trans (h.block k hk hr)⟩
      have HK7 := Lib.hid ((hK5.setCell (p := ⟨w2.heap.size, 2, none⟩) (fun _ => rfl) (.slice a5 (ls.length + 1) c5)).setCell (p := ⟨w2.heap.size, 1, none⟩) (fun _ => rfl) (.int .i64 ((q : Int) + (cs : Int))))
      have hll : (ls ++ [body]).length = ls.length + 1 := by simp
      have hqc : ((q + cs : Nat) : Int) = (q : Int) + (cs : Int) := by omega
      have HV7 := Lib.hid (show RowV ((w5.setCell ⟨w2.heap.size, 2, none⟩ (.slice a5 (ls.length + 1) c5)).setCell ⟨w2.heap.size, 1, none⟩ (.int .i64 ((q : Int) + (cs : Int)))) w2.heap.size (.int .u64 (rd : Int)) (.int .i64 ((q + cs : Nat) : Int)) (.slice a5 (ls ++ [body]).length c5) by rw [hll, hqc]; exact hV7)
      have HO7 := Lib.hid (show OwnG ((w5.setCell ⟨w2.heap.size, 2, none⟩ (.slice a5 (ls.length + 1) c5)).setCell ⟨w2.heap.size, 1, none⟩ (.int .i64 ((q : Int) + (cs : Int)))) w3.heap.size (.slice a5 (ls ++ [body]).length c5) (ls ++ [body]) by rw [hll]; exact hO7)
      have HQ2 := Lib.hid (show q + cs + (n - cs) ≤ ins.length by have := HQ.out; omega)
      have HLS2 := Lib.hid (show (ls ++ [body]).length ≤ q + cs by rw [hll]; omega)
      generalize ls ++ [body] = ls2 at *
      clear hV7 hO7 hK5 HO HV VW HB HBB HP HPU CF hll hqc hO5 hV4 hV5 hV6 HQ HLS hls HLN
      go_wp2_with fail
      go_roundw
      case rel => exact ⟨l2, a6, c6, n - cs, q + cs, 2, ls2, a5, c5, rfl, rfl, HB6, HLN2, HQ2, HLS2, HV7, HO7, HK7, HE⟩
      case measure => exact HLT.out

end Go.Proofs.Ytipikkniookanaa
