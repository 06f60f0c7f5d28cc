/- A plan in memory: its lists in a row of its own, who is good, who is bad; all of it in blocks of its own. -/
import Derived.Test.YtbhknaggbenfnaaTxMem
import Derived.Test.YtbhknaggbenfnaaHvPlain
import Derived.Test.YtbhknaggbenfnaaKp
import Derived.Maps.AppendAt
namespace Go.Proofs.Ytbhknaggbenfnaa
set_option maxRecDepth 100000
open Go.RowKit

def PartT.val (p : PartT) : Value := .slice p.a p.l.length p.cap
/-- Lists of texts in a row of a call's own. -/
def OwnU (w : World) (v : Value) (us : List PartT) : Prop := w.ownsRow 0 27 1 v us.length (us.map PartT.val)
theorem infoU : (Try.prog.info? 27).map (fun i => (i.zero, i.size, i.bytes)) = some (some (.slice none 0 0), 1, 24) := by kernel_rfl

theorem StrsP.same {w w' : World} {a : Option Addr} {cap : Nat} {l : List ByteArray} (h : StrsP w a cap l) (hs : w.heap.size ≤ w'.heap.size) (hb : l ≠ [] → ∀ x, a = some x → w'.heap[x.block]? = w.heap[x.block]?) : StrsP w' a cap l := by
  refine ⟨h.cap, h.len, fun hne => ?_⟩
  obtain ⟨b, o, e, hlt, hc⟩ := h.cell hne
  have hbb := hb hne _ e
  refine ⟨b, o, e, Nat.lt_of_lt_of_le hlt hs, fun j x hx => ?_⟩
  rw [← hc j x hx]
  simp only [World.cell?]
  rw [hbb]

theorem OwnU.shape {w : World} {v : Value} {us : List PartT} (h : OwnU w v us) : ∃ a cap, v = .slice a us.length cap ∧ us.length ≤ cap ∧ cap ≤ 9223372036854775807 := by
  rcases h.2 with ⟨e, h0⟩ | ⟨g, cap, cur, e, _, _, h3, h4, _⟩
  · exact ⟨none, 0, by rw [e, h0], by omega, by omega⟩
  · exact ⟨_, cap, e, h3, h4⟩
/-- A list of them. -/
theorem OwnU.at {w : World} {v : Value} {us : List PartT} (h : OwnU w v us) (k : Nat) (hk : k < us.length) : ∃ g cap, v = .slice (some ⟨g, 0, none⟩) us.length cap ∧ us.length ≤ cap ∧ g < w.heap.size ∧ w.cell? ⟨g, k, none⟩ = some us[k].val := by
  rcases h.2 with ⟨e, h0⟩ | ⟨g, cap, cur, e, h1, h2, h3, h4, h5, h6⟩
  · omega
  · refine ⟨g, cap, e, h3, (Array.getElem?_eq_some_iff.1 h2).1, ?_⟩
    have hi : (us.map PartT.val)[k]? = some us[k].val := by rw [List.getElem?_map, List.getElem?_eq_getElem hk]; rfl
    rw [← h6, List.getElem?_take] at hi
    split at hi
    · simp only [Array.getElem?_toList] at hi
      simp [World.cell?, h2, hi]
    · cases hi
theorem OwnU.lt {w : World} {v : Value} {us : List PartT} (h : OwnU w v us) : ∀ k, v.ownBlock = some k → k < w.heap.size := fun k hk => (World.ownsRow.lt h k hk).2
theorem OwnT.lt {w : World} {base : Nat} {v : Value} {l : List ByteArray} (h : OwnT w base v l) : ∀ k, v.ownBlock = some k → k < w.heap.size := fun k hk => (World.ownsRow.lt h k hk).2
theorem OwnT.ge {w : World} {base : Nat} {v : Value} {l : List ByteArray} (h : OwnT w base v l) : ∀ k, v.ownBlock = some k → base ≤ k := fun k hk => (World.ownsRow.lt h k hk).1

/-- A plan at block g, its blocks among R. -/
structure PnM (w : World) (R : Nat → Prop) (g : Nat) (p : Hv ByteArray) (vu vg vb : Value) (us : List PartT) : Prop where
  dom : ∀ k, R k → k < w.heap.size
  head : w.heap[g]? = some (.cells #[vu, vg, vb, .int .i64 (p.tries : Int)] 47 (0, 0))
  un : OwnU w vu us
  rest : us.reverse.map PartT.l = p.rest
  each : ∀ u ∈ us, StrsP w u.a u.cap u.l
  far : ∀ u ∈ us, ∀ x, u.a = some x → R x.block ∧ x.block ≠ g ∧ vu.ownBlock ≠ some x.block ∧ vg.ownBlock ≠ some x.block ∧ vb.ownBlock ≠ some x.block
  good : OwnT w 0 vg p.good
  bad : OwnT w 0 vb p.bad
  rg : R g
  ru : ∀ k, vu.ownBlock = some k → R k ∧ k ≠ g
  rgd : ∀ k, vg.ownBlock = some k → R k ∧ k ≠ g ∧ vu.ownBlock ≠ some k
  rbd : ∀ k, vb.ownBlock = some k → R k ∧ k ≠ g ∧ vu.ownBlock ≠ some k ∧ vg.ownBlock ≠ some k

def PlanP (w : World) (R : Nat → Prop) (g : Nat) (p : Hv ByteArray) : Prop := ∃ vu vg vb us, PnM w R g p vu vg vb us

section
variable {w w' : World} {R : Nat → Prop} {g : Nat} {p : Hv ByteArray} {vu vg vb : Value} {us : List PartT}

theorem PnM.same (h : PnM w R g p vu vg vb us) (hs : w.heap.size ≤ w'.heap.size) (hb : ∀ k, R k → w'.heap[k]? = w.heap[k]?) : PnM w' R g p vu vg vb us :=
  ⟨fun k hk => Nat.lt_of_lt_of_le (h.dom k hk) hs, (hb g h.rg).trans h.head, ownsRow_same h.un (fun k hk => hb k (h.ru k hk).1), h.rest,
    fun u hu => (h.each u hu).same hs (fun _ x hx => hb _ (h.far u hu x hx).1), h.far, ownsRow_same h.good (fun k hk => hb k (h.rgd k hk).1), ownsRow_same h.bad (fun k hk => hb k (h.rbd k hk).1),
    h.rg, h.ru, h.rgd, h.rbd⟩
theorem PnM.below (h : PnM w R g p vu vg vb us) (hb : Below w.heap.size w w') : PnM w' R g p vu vg vb us := h.same hb.size (fun k hk => hb.block k (h.dom k hk))
theorem PnM.mono {S : Nat → Prop} (h : PnM w R g p vu vg vb us) (hS : ∀ k, S k → k < w.heap.size) (hRS : ∀ k, R k → S k) : PnM w S g p vu vg vb us :=
  ⟨hS, h.head, h.un, h.rest, h.each, fun u hu x hx => ⟨hRS _ (h.far u hu x hx).1, (h.far u hu x hx).2⟩, h.good, h.bad, hRS _ h.rg, fun k hk => ⟨hRS _ (h.ru k hk).1, (h.ru k hk).2⟩, fun k hk => ⟨hRS _ (h.rgd k hk).1, (h.rgd k hk).2⟩, fun k hk => ⟨hRS _ (h.rbd k hk).1, (h.rbd k hk).2⟩⟩
theorem PnM.ext {w0 : World} (h : PnM w R g p vu vg vb us) : PnM w (ext R w0 w) g p vu vg vb us :=
  h.mono (fun k hk => hk.elim (h.dom k) (fun e => e.2)) (fun _ e => .inl e)
theorem PlanP.below (h : PlanP w R g p) (hb : Below w.heap.size w w') : PlanP w' R g p := by
  obtain ⟨vu, vg, vb, us, h⟩ := h
  exact ⟨vu, vg, vb, us, h.below hb⟩

theorem head4 {a b c d : Value} {T : TypeId} (h : w.heap[g]? = some (.cells #[a, b, c, d] T (0, 0))) :
    w.cell? ⟨g, 0, none⟩ = some a ∧ w.cell? ⟨g, 1, none⟩ = some b ∧ w.cell? ⟨g, 2, none⟩ = some c ∧ w.cell? ⟨g, 3, none⟩ = some d ∧ ∀ j, w.frozen? ⟨g, j, none⟩ = false := by
  simp [World.cell?, World.frozen?, h]
end

/-- A plan stays where its blocks stay. -/
def atPn (g : Nat) (p : Hv ByteArray) (w : World) (R : Nat → Prop) : Prop := PlanP w R g p
theorem stays_pn (g : Nat) (p : Hv ByteArray) : Stays (atPn g p) :=
  ⟨fun _ _ h k hk => by obtain ⟨_, _, _, _, h⟩ := h; exact h.dom k hk, fun _ _ _ h hs hb => by obtain ⟨vu, vg, vb, us, h⟩ := h; exact ⟨vu, vg, vb, us, h.same hs hb⟩⟩

/-- What a plan is like that came of New: no list is empty, not too many names, not too many tries. -/
structure OkH (n : Nat) (p : Hv ByteArray) : Prop where
  full : FullH p
  size : p.good.length + p.bad.length + p.rest.flatten.length ≤ n
  time : p.tries + leftH p ≤ 2 * n
theorem OkH.new (names : List ByteArray) : OkH names.length (newH names) := by
  refine ⟨newH_full _, ?_, ?_⟩
  · have := newH_done names
    unfold DoneH at this
    rw [List.nil_append] at this
    rw [this]
    simp [newH]
  · have := left_new names
    simp only [newH] at *
    omega
theorem OkH.tell {n : Nat} {p : Hv ByteArray} (h : OkH n p) (g : Bool) : OkH n (tellH p g) := by
  refine ⟨h.full.tell g, ?_, Nat.le_trans (tries_left h.full g) h.time⟩
  have hs := h.size
  unfold tellH
  split
  · exact hs
  · rename_i l r e
    rw [e, List.flatten_cons, List.length_append] at hs
    split
    · simp only [List.length_append]; omega
    · split
      · simp only [List.length_append]; omega
      · have : (halfA l).length + (halfB l).length = l.length := by rw [← List.length_append, half_app]
        simp only [List.flatten_cons, List.length_append]; omega
theorem flat_len : ∀ (ls : List (List ByteArray)), (∀ l ∈ ls, l ≠ []) → ls.length ≤ ls.flatten.length
  | [], _ => by simp
  | l :: r, h => by
    have h1 : 1 ≤ l.length := List.length_pos_iff.2 (h l (by simp))
    have h2 := flat_len r (fun m hm => h m (by simp [hm]))
    simp only [List.length_cons, List.flatten_cons, List.length_append]
    omega
theorem OkH.lists {n : Nat} {p : Hv ByteArray} (h : OkH n p) : p.rest.length ≤ n := by
  have := flat_len p.rest h.full
  have := h.size
  omega
theorem mem_flat {l : List ByteArray} {r : List (List ByteArray)} (h : l ∈ r) : l.length ≤ r.flatten.length := by
  induction r with
  | nil => cases h
  | cons m r ih =>
    simp only [List.flatten_cons, List.length_append]
    rcases List.mem_cons.1 h with rfl | h
    · omega
    · have := ih h; omega

end Go.Proofs.Ytbhknaggbenfnaa
