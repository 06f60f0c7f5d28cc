/- Package state: keys that are counted, Right, New; its own lists. -/
import Derived.Test.YtfmpibmhhfmajaaGreatDoorMgStates
import Derived.Test.YtfmpibmhhfmajaaGreatDoorMgState
import Derived.Maps.Range
import Derived.Maps.OwnSet
import Derived.Maps.Views
import Derived.WideKeyEntry
import Derived.DeepKeys4
import Derived.Test.YtfmpibmhhfmajaaGreatDoorMgEffects
import Derived.Test.YtfmpibmhhfmajaaGreatDoorMgRight
import Derived.Test.YtfmpibmhhfmajaaGreatDoorPDy
import Derived.Test.YtfmpibmhhfmajaaGreatDoorMgLines
import Derived.Test.YtfmpibmhhfmajaaGreatDoorMgBase
import Derived.WalkSpells
namespace Go.Proofs.YtfmpibmhhfmajaaGreatDoor
/- StMap: The map of what is needed: what it tells of each kind, order and batch; counting up and down in it, going through it. -/
section
set_option maxRecDepth 100000
open Go.RowKit Go.Maps Go.ChangeMaps

theorem laidOutTry : laidOutB Tryz.prog = true := by kernel_rfl
theorem askRow : (166 : TypeId) < Tryz.prog.types.size := of_decide_eq_true (by kernel_rfl)
theorem askWide : (match Tryz.prog.underlying 166 with | some (.array _ _) | some (.struct _) => true | _ => false) = true := by kernel_rfl
theorem askKL : WideMaps.KeyLaw Tryz.prog 166 := deep_law_laid laidOutTry (m := 2) (by omega) askRow (by kernel_rfl) askWide
theorem askLaw : Keyed Tryz.prog 166 := Keyed.of_law askKL
theorem askKey : Tryz.prog.keyType 166 = true := by kernel_rfl
theorem askCells : Tryz.prog.cellsOf 166 = 3 := by kernel_rfl
theorem int64Cells : Tryz.prog.cellsOf 2 = 1 := by kernel_rfl
theorem intCells : Tryz.prog.cellsOf 3 = 1 := by kernel_rfl
theorem strCells : Tryz.prog.cellsOf 9 = 1 := by kernel_rfl
/-- A key, as a value and as it reads. -/
def akV (k b : Int) (s : ByteArray) : Value := .agg #[.int .i64 k, .int .i64 b, .string s]
def keyL (x : Key) : Lit := .string (keyBytes [.int .i64 x.1, .int .i64 x.2.2, .string x.2.1])
/-- A key that can be one. -/
structure KeyW (k b : Int) (s : ByteArray) : Prop where
  k : (Lit.int .i64 k).wf = true
  b : (Lit.int .i64 b).wf = true
  s : s.size ≤ maxLen
def keyX (k b : Int) (s : ByteArray) : Key := (k, s.toList, b)
theorem keyOf_ask {k b : Int} {s : ByteArray} (h : KeyW k b s) : keyOf Tryz.prog 166 (akV k b s) = some (keyL (keyX k b s)) := by
  obtain ⟨h1, h2, h3⟩ := h
  have hf : (akV k b s).formed Tryz.prog 166 = true := by simp [akV, Value.formed, Tryz.underlying166, askCells]
  have hl : s.toList = s.data.toList := Lib.toList_data s
  obtain ⟨m, hm⟩ : ∃ m, Tryz.prog.types.size = m + 1 := ⟨Tryz.prog.types.size - 1, (Nat.succ_pred_eq_of_pos (Nat.lt_of_le_of_lt (Nat.zero_le _) askRow)).symm⟩
  unfold keyOf
  rw [Tryz.underlying166]
  simp only [askKey, hf, Bool.and_self, if_true, hm]
  simp [Program.keyLits, Tryz.underlying166, Tryz.underlying3, Tryz.underlying2, Tryz.underlying9, askCells, int64Cells, intCells, strCells, akV, Value.cells, h1, h2, h3, keyL, keyX, hl]

theorem entry_look {P : Program} {k e t : TypeId} {R : Value → Option (DataW Unit × List MemPlace)} {w : World} {b : Nat} {es : Array MapEntry} {clock : Nat} (K : WideMaps.KeyLaw P k) (ht : P.underlying t = some (.map k e)) {z : Value} (hz : ∀ u : World, (zeroValue e).run P u = .ok z u) (hb : w.heap[b]? = some (.map es clock)) (F : WideElems.Fit P k R es clock) {key : Value} {kl : Lit} (hkey : keyOf P k key = some kl) :
    ∃ (v0 : Value) (st : Nat) (es1 : Array MapEntry) (clock1 : Nat), (Instr.mapEntry t (.map (some b)) key).run P w = .ok (.tuple #[v0, goInt st]) (setBlock w b (.map es1 clock1)) ∧ ∀ W : World, W.heap[b]? = some (.map es1 clock1) → (Instr.lookup t (.map (some b)) key false).run P W = .ok v0 W := by
  rcases K.find w hkey es.toList F.keys with ⟨h1, h2⟩ | ⟨j, e0, h1, h2, h3⟩
  · refine ⟨z, clock, es.push ⟨key, z, clock⟩, clock + 1, ?_, fun W hW => ?_⟩
    · simp [Instr.mapEntry, run_underlying ht, MapKept.run_getObj_map hb, K.check w false hkey, h1, hz, MapKept.run_setObj_map _ hb, Result.andThen, setBlock]
    · have hks : ∀ x ∈ (es.push ⟨key, z, clock⟩).toList, ∃ l, keyOf P k x.key = some l := by
        intro x hx
        rw [Array.toList_push] at hx
        rcases List.mem_append.1 hx with hx | hx
        · exact F.keys x hx
        · rw [List.mem_singleton.1 hx]
          exact ⟨kl, hkey⟩
      rcases K.find W hkey _ hks with ⟨_, g2⟩ | ⟨i, e1, g1, g2, g3⟩
      · exact absurd rfl (g2 ⟨key, z, clock⟩ (by simp))
      · have hv : e1.val = z := by
          have hm := List.mem_of_getElem? g2
          rw [Array.toList_push] at hm
          rcases List.mem_append.1 hm with hx | hx
          · exact absurd g3 (h2 e1 hx)
          · rw [List.mem_singleton.1 hx]
        rw [hv] at g1
        have hd : (es.push ⟨key, z, clock⟩).toList = es.toList ++ [⟨key, z, clock⟩] := Array.toList_push
        rw [hd] at g1
        simp [Instr.lookup, run_underlying ht, MapKept.run_getObj_map hW, K.check W _ hkey, g1, Result.andThen]
  · have hj : es[j]? = some e0 := by simpa using h2
    have hsame : es.modify j (fun e => { e with key := key }) = es := by
      apply Array.ext'
      rw [Array.toList_modify, modify_eq_set _ _ _ _ h2, show ({ e0 with key := key } : MapEntry) = e0 by rw [← h3]]
      exact WideElems.set_self _ _ _ h2
    refine ⟨e0.val, e0.born, es, clock, ?_, fun W hW => ?_⟩
    · simp [Instr.mapEntry, run_underlying ht, MapKept.run_getObj_map hb, K.check w false hkey, h1, hj, h3, K.stays w hkey, hsame, MapKept.run_setObj_map _ hb, Result.andThen, setBlock]
    · rcases K.find W hkey es.toList F.keys with ⟨_, g2⟩ | ⟨i, e1, g1, g2, g3⟩
      · exact absurd h3 (g2 e0 (List.mem_of_getElem? h2))
      · have he : e1 = e0 := entry_eq_of_key ((MapKept.stamped_iff es clock).1 F.stamped).2.2 (List.mem_of_getElem? g2) (List.mem_of_getElem? h2) (g3.trans h3.symm)
        rw [he] at g1
        simp [Instr.lookup, run_underlying ht, MapKept.run_getObj_map hW, K.check W _ hkey, g1, Result.andThen]

theorem zero3S (w : World) : (zeroValue 3).run Tryz.prog w = .ok (.int .i64 0) w := by kernel_rfl
/-- Block b is a map of at most n entries that tells f of each key. -/
def NM (w : World) (b n : Nat) (f : Key → Int) : Prop := ∃ D : DataW Unit, w.ownsMap Tryz.prog 166 (plainElem Tryz.prog 3) b n D ∧
  (∀ k bt s, KeyW k bt s → D.atKey (keyL (keyX k bt s)) (.lit (.int .i64 0)) = .lit (.int .i64 (f (keyX k bt s)))) ∧ ∀ kl, has D kl = true → ∃ k bt s, KeyW k bt s ∧ kl = keyL (keyX k bt s)
theorem keyL_inj {k bt k2 bt2 : Int} {s s2 : ByteArray} (h : KeyW k bt s) (h2 : KeyW k2 bt2 s2) (e : keyL (keyX k bt s) = keyL (keyX k2 bt2 s2)) : keyX k bt s = keyX k2 bt2 s2 := by
  have h3 := keyOf_ask h
  rw [e] at h3
  have := askLaw.inj h3 (keyOf_ask h2)
  unfold akV at this
  simp only [Value.agg.injEq, Array.mk.injEq, List.cons.injEq, Value.int.injEq, Value.string.injEq, and_true, true_and] at this
  obtain ⟨rfl, rfl, rfl⟩ := this
  rfl
theorem NM.made (w : World) : NM (w.alloc (.map #[] 0)) w.heap.size 0 (fun _ => 0) :=
  ⟨_, World.ownsMap_made _ _ _ _, fun _ _ _ _ => rfl, fun kl h => by simp [has] at h⟩
theorem NM.lt {w : World} {b n : Nat} {f : Key → Int} (h : NM w b n f) : b < w.heap.size := by
  obtain ⟨D, h, _⟩ := h
  exact h.lt
theorem owns_block {w w' : World} {b n : Nat} {D : DataW Unit} (h : w.ownsMap Tryz.prog 166 (plainElem Tryz.prog 3) b n D) (hb : w'.heap[b]? = w.heap[b]?) : w'.ownsMap Tryz.prog 166 (plainElem Tryz.prog 3) b n D := by
  obtain ⟨es, clock, h1, h2⟩ := h
  exact ⟨es, clock, hb.trans h1, h2⟩
theorem NM.block {w w' : World} {b n : Nat} {f : Key → Int} (h : NM w b n f) (hb : w'.heap[b]? = w.heap[b]?) : NM w' b n f := by
  obtain ⟨D, h1, h2⟩ := h
  exact ⟨D, owns_block h1 hb, h2⟩
theorem NM.below {w w' : World} {b n : Nat} {f : Key → Int} (h : NM w b n f) (hb : Below w.heap.size w w') : NM w' b n f := h.block (hb.block b h.lt)
theorem NM.mono {w : World} {b n m : Nat} {f : Key → Int} (h : NM w b n f) (hn : n ≤ m) : NM w b m f := by
  obtain ⟨D, h1, h2⟩ := h
  exact ⟨D, h1.mono hn, h2⟩
theorem NM.congr {w : World} {b n : Nat} {f g : Key → Int} (h : NM w b n f) (e : ∀ x, f x = g x) : NM w b n g := by
  rw [← funext e]
  exact h
def updK (f : Key → Int) (x : Key) (v : Int) : Key → Int := fun y => if y = x then v else f y

/-- Counting at one key: it is read, its entry is taken, and a number is written. -/
theorem NM.step {w : World} {b n : Nat} {f : Key → Int} (h : NM w b n f) {k bt : Int} {s : ByteArray} (hx : KeyW k bt s) (hn : n < maxLen) :
    ∃ (st : Nat) (w1 : World), (Instr.lookup 163 (.map (some b)) (akV k bt s) false).run Tryz.prog w = .ok (.int .i64 (f (keyX k bt s))) w ∧
      (Instr.mapEntry 163 (.map (some b)) (akV k bt s)).run Tryz.prog w = .ok (.tuple #[.int .i64 (f (keyX k bt s)), .int .i64 (st : Int)]) w1 ∧
      (Instr.lookup 163 (.map (some b)) (akV k bt s) false).run Tryz.prog w1 = .ok (.int .i64 (f (keyX k bt s))) w1 ∧
      ∀ v, (Lit.int .i64 v).wf = true → ∃ w2, (Instr.entryStore 163 (.map (some b)) (.int .i64 (st : Int)) (.int .i64 v)).run Tryz.prog w1 = .ok () w2 ∧ NM w2 b (n + 1) (updK f (keyX k bt s) v) ∧ w.grownBy w2 (some b) ∧ w2.heap.size = w.heap.size := by
  obtain ⟨D, ho, hat, hhas⟩ := h
  have hkey := keyOf_ask hx
  have ht := Tryz.underlying163
  obtain ⟨c, hl, hc, _⟩ := ho.lookup_int askLaw ht Tryz.underlying3 (zero3S w) hkey
  have hcf : c = f (keyX k bt s) := by
    have := hc.symm.trans (hat k bt s hx)
    injection this with this
    injection this with _ this
  have hm := ho.isMap
  have ho2 := ho
  obtain ⟨es, clock, hb, F, hs, hD⟩ := ho
  obtain ⟨v0, st, es1, clock1, hme, hlk⟩ := entry_look askKL ht zero3S hb F hkey
  obtain ⟨v0', st', es1', clock1', hme', _, hst⟩ := WideElems.entry_then_store askKL ht zero3S hb F hkey
  have heq := hme.symm.trans hme'
  injection heq with heq hw
  have hv : v0 = v0' ∧ (st : Int) = (st' : Int) := by
    injection heq with heq
    simp only [goInt, Array.mk.injEq, List.cons.injEq, Value.int.injEq, and_true, true_and] at heq
    exact heq
  have hbk : (setBlock w b (.map es1 clock1)).heap[b]? = some (.map es1 clock1) := heap_setBlock_same hb _
  have hbk' : (setBlock w b (.map es1' clock1')).heap[b]? = some (.map es1' clock1') := heap_setBlock_same hb _
  rw [hw, hbk'] at hbk
  injection hbk with hbk
  injection hbk with e1 e2
  subst e1 e2
  -- what the entry holds is what a look-up tells
  have hl1 := hlk (setBlock w b (.map es1' clock1')) hbk'
  have hv0 : v0 = .int .i64 (f (keyX k bt s)) := by
    rcases (show _ from (WideElems.entry_then_store askKL ht zero3S hb F hkey)) with ⟨v2, st2, es2, clock2, hme2, hor, _⟩
    have heq2 := hme.symm.trans hme2
    injection heq2 with heq2 _
    injection heq2 with heq2
    simp only [Array.mk.injEq, List.cons.injEq, and_true] at heq2
    rw [heq2.1]
    have hlook := fit_look false askLaw ht (zero3S w) hb F hkey
    simp only [Bool.false_eq_true, if_false] at hlook
    rcases hor with ⟨e0, hm0, h3, rfl⟩ | ⟨hno, rfl⟩
    · rcases hlook with ⟨_, hno, _⟩ | ⟨e4, y, hm4, h4, hl4, _⟩
      · exact absurd h3 (hno e0 hm0)
      · have he : e4 = e0 := entry_eq_of_key ((MapKept.stamped_iff es clock).1 F.stamped).2.2 hm4 hm0 (h4.trans h3.symm)
        rw [he] at hl4
        have := hl4.symm.trans hl
        injection this with this _
        rw [this, hcf]
    · rcases hlook with ⟨hl4, _, _⟩ | ⟨e4, y, hm4, h4, _⟩
      · have := hl4.symm.trans hl
        injection this with this _
        rw [this, hcf]
      · exact absurd h4 (hno e4 hm4)
  refine ⟨st, setBlock w b (.map es1' clock1'), by rw [hl, hcf], ?_, by rw [hl1, hv0], fun v hvw => ?_⟩
  · rw [hme, hv0, hw]
    rfl
  · obtain ⟨es3, clock3, hes, hup⟩ := hst (setBlock w b (.map es1' clock1')) (.int .i64 v) hbk'
    obtain ⟨w', hup', ho', hg'⟩ := ho2.update askLaw ht hn hkey (plainElem_int Tryz.underlying3 hvw)
    have he := hup.symm.trans hup'
    injection he with _ he
    subst he
    refine ⟨setBlock (setBlock w b (.map es1' clock1')) b (.map es3 clock3), ?_, ⟨_, owns_block ho' ?_, ?_, ?_⟩, ?_, by simp [setBlock]⟩
    · rw [hv.2]
      exact hes
    · rw [heap_setBlock_same hbk', heap_setBlock_same hb]
    · intro k2 bt2 s2 h2
      unfold updK
      by_cases e : keyX k2 bt2 s2 = keyX k bt s
      · rw [if_pos e, e]
        exact atKey_put_same hm (askLaw.key hkey) _ _
      · rw [if_neg e, atKey_put_other (fun hc => e (keyL_inj h2 hx hc))]
        exact hat k2 bt2 s2 h2
    · intro kl hkl
      by_cases e : kl = keyL (keyX k bt s)
      · exact ⟨k, bt, s, hx, e⟩
      · rw [has_put_other e] at hkl
        exact hhas kl hkl
    · refine ⟨rfl, rfl, rfl, by simp [setBlock], fun i _ hi => ?_⟩
      rw [heap_setBlock_other hbk' _ (fun e => hi (by rw [e])), heap_setBlock_other hb _ (fun e => hi (by rw [e]))]

/-- Going through it, in whatever order. -/
def RG (w : World) (b r n : Nat) (f : Key → Int) : Prop := ∃ (D : DataW Unit) (left : Lit → Bool) (cnt : Nat), w.ranges Tryz.prog 166 (plainElem Tryz.prog 3) b r n D left cnt ∧
  (∀ k bt s, KeyW k bt s → D.atKey (keyL (keyX k bt s)) (.lit (.int .i64 0)) = .lit (.int .i64 (f (keyX k bt s)))) ∧ (∀ kl, left kl = true → ∃ k bt s, KeyW k bt s ∧ kl = keyL (keyX k bt s)) ∧
  ∀ k bt s, KeyW k bt s → 0 < f (keyX k bt s) → left (keyL (keyX k bt s)) = true
theorem NM.range {w : World} {b n : Nat} {f : Key → Int} (h : NM w b n f) : ∃ w', (Instr.range 163 (.map (some b))).run Tryz.prog w = .ok (.pointer (some ⟨w.heap.size, 0, none⟩)) w' ∧ RG w' b w.heap.size n f ∧ w.grownBy w' none := by
  obtain ⟨D, ho, hat, hhas⟩ := h
  obtain ⟨w', h1, h2, h3, _⟩ := ho.range askLaw Tryz.underlying163
  refine ⟨w', h1, ⟨D, _, _, h2, hat, hhas, fun k bt s hx hf => ?_⟩, h3⟩
  cases hq : has D (keyL (keyX k bt s)) with
  | true => rfl
  | false =>
    have := (hat k bt s hx).symm.trans (atKey_of_not_has hq _)
    injection this with this
    injection this with _ this
    omega
theorem RG.next {w : World} {b r n : Nat} {f : Key → Int} (h : RG w b r n f) (ty : TypeId) :
    ((Instr.next (.pointer (some ⟨r, 0, none⟩)) false ty).run Tryz.prog w = .ok (.tuple #[.bool false]) w ∧ ∀ k bt s, KeyW k bt s → f (keyX k bt s) ≤ 0) ∨
    ∃ key v w', (Instr.next (.pointer (some ⟨r, 0, none⟩)) false ty).run Tryz.prog w = .ok (.tuple #[.bool true, key, .int .i64 v]) w' ∧ (Instr.entry (.pointer (some ⟨r, 0, none⟩))).run Tryz.prog w' = .ok (.tuple #[key, .int .i64 v]) w' ∧
      (∃ k bt s, KeyW k bt s ∧ v = f (keyX k bt s)) ∧ (v ≤ 0 → RG w' b r n f) ∧ w.grownBy w' (some r) ∧ w'.rangeLeft b r < w.rangeLeft b r := by
  obtain ⟨D, left, cnt, hr, hat, hleft, hpos⟩ := h
  have hcnt := hr.left_eq
  rcases hr.next askLaw ty with ⟨_, hall, hrun⟩ | ⟨key, v, kl, y, w', cnt', hkey, hlk, hRv, hatk, hrun, hr', hlt, hg, _, hent⟩
  · refine .inl ⟨hrun, fun k bt s hx => ?_⟩
    by_cases hf : 0 < f (keyX k bt s)
    · have := hpos k bt s hx hf
      rw [hall] at this
      cases this
    · omega
  · obtain ⟨k, bt, s, hx, rfl⟩ := hleft kl hlk
    obtain ⟨a, rfl, hy, _⟩ := plainElem_int_inv Tryz.underlying3 hRv
    have ha : a = f (keyX k bt s) := by
      have h1 := hatk (.lit (.int .i64 0))
      rw [hat k bt s hx, hy] at h1
      injection h1 with h1
      injection h1 with _ h1
      exact h1.symm
    refine .inr ⟨key, a, w', hrun, hent, ⟨k, bt, s, hx, ha⟩, fun ha0 => ⟨D, _, _, hr', hat, fun kl hkl => ?_, fun k2 bt2 s2 hx2 hf => ?_⟩, hg, by rw [hr'.left_eq, hcnt]; exact hlt⟩
    · simp only [Bool.and_eq_true] at hkl
      exact hleft kl hkl.1
    · have hl2 := hpos k2 bt2 s2 hx2 hf
      rw [hl2, Bool.true_and, Bool.not_eq_true']
      refine sameKey_ne (fun e => ?_)
      have := keyL_inj hx2 hx e
      rw [this] at hf
      omega
end

/- StNeed: What package state's needs and isAskedFor answer. -/
section
set_option maxRecDepth 100000
open Go.RowKit Go.ChangeShapes Go.WideShapes Go.ChangeAt

/-- Kinds, orders and batches as values. -/
def akC (k b : Int) (s : ByteArray) : Array Value := #[.int .i64 k, .int .i64 b, .string s]
section
variable (ev : Operand → Value) (d : Option Tmp) (ty : TypeId) (pos : String) (af : Array Edge) (gd : Option (Nat × Bool)) (w : World)
theorem bdAk (ps : Array (Nat × Operand)) : (execOp ev ⟨d, .build 166 ps, ty, pos, af, gd⟩).run Tryz.prog w = BdX 166 (ps.map fun (i, x) => (i, ev x)) w := rfl
theorem alAk : (execOp ev ⟨d, .alloc 166, ty, pos, af, gd⟩).run Tryz.prog w = AlX 166 w := rfl
theorem stAk (x y : Operand) : (execOp ev ⟨d, .store 166 x y, ty, pos, af, gd⟩).run Tryz.prog w = StX 166 (ev x) (ev y) w := rfl
theorem ldAk (x : Operand) : (execOp ev ⟨d, .load 166 x, ty, pos, af, gd⟩).run Tryz.prog w = LdX 166 (ev x) w := rfl
end
theorem bd_ak2 (k : Int) (s : ByteArray) (w : World) : BdX 166 #[(0, .int .i64 k), (2, .string s)] w = .ok (.value (akV k 0 s)) w := by kernel_rfl
theorem bd_ak1 (k b : Int) (w : World) : BdX 166 #[(0, .int .i64 k), (1, .int .i64 b)] w = .ok (.value (akV k b noT)) w := by kernel_rfl
theorem bd_ak3 (k b : Int) (s : ByteArray) (w : World) : BdX 166 #[(0, .int .i64 k), (1, .int .i64 b), (2, .string s)] w = .ok (.value (akV k b s)) w := by kernel_rfl
theorem zeroAk (W : World) : (zeroValue 166).run Tryz.prog W = .ok (.agg (akC 0 0 noT)) W := by kernel_rfl
theorem al_ak (w : World) : AlX 166 w = .ok (.value (.pointer (some ⟨w.heap.size, 0, none⟩))) (w.alloc (.cells (akC 0 0 noT) 166)) := al_any _ _ w zeroAk
theorem size3Ak (k b : Int) (s : ByteArray) : (Tryz.prog.info? 166).map (·.size) = some (akC k b s).size := by
  show _ = some 3
  kernel_rfl
theorem st_aknew (W : World) (k b : Int) (s : ByteArray) : StX 166 (.pointer (some ⟨W.heap.size, 0, none⟩)) (akV k b s) (W.alloc (.cells (akC 0 0 noT) 166)) = .ok .skip (W.alloc (.cells (akC k b s) 166)) := by
  have := run_storeVar_row (P := Tryz.prog) (W.alloc (.cells (akC 0 0 noT) 166)) W.heap.size 166 166 (akC 0 0 noT) (akC k b s) (Row.new _ _ _) (size3Ak k b s) rfl (by simp [akC, Value.oneCell'])
  simp only [StX, Instr.storeAt, Instr.sureAddr, Sem.run_bind, Sem.run_pure, Result.andThen_ok, show akV k b s = Value.agg (akC k b s) from rfl, this, alloc_setRow]
theorem ld_ak {W : World} {g : Nat} {k b : Int} {s : ByteArray} (h : Row W g 166 (akC k b s)) : LdX 166 (.pointer (some ⟨g, 0, none⟩)) W = .ok (.value (akV k b s)) W := by
  have hl : (loadVar 166 ⟨g, 0, none⟩).run Tryz.prog W = .ok (.agg (akC k b s)) W := run_loadVar_row (P := Tryz.prog) W g 166 166 _ (0, 0) _ h Tryz.underlying166 rfl (size3Ak k b s)
  simp only [LdX, Instr.loadAt, Instr.sureAddr, Sem.run_bind, Sem.run_pure, Result.andThen_ok, hl]
  rfl
attribute [local go_sem ↓] ldOr stOr alOr bxOr bdOr ldBa stBa alBa bxBa bdBa ldSt stSt alSt bxSt bdSt ldEf stEf alEf bxEf eqEf bdEf bsEf ldGr bxGr eqGr ldCa bxCa eqCa bdAk alAk stAk ldAk
attribute [local go_sem] al_or bx_or st_ornew bd_or al_ba bx_ba st_banew bd_ba al_sta bx_sta st_stnew bd_sta al_ef bx_ef st_new bd_ef bs_ef bs_ef0 bx_gr ne_gr bx_ca ne_ca eq_caX eq_grX bd_ak2 bd_ak1 bd_ak3 al_ak st_aknew

theorem OnI.keep {w W W' : World} {r : StR} (h : OnI w r W) (hs : StP w r) (b : Below (w.heap.size + 1) W W') : OnI w r W' := by
  have hl : Below w.heap.size w W' := h.low.trans (b.mono (by omega))
  exact ⟨(b.block _ (by omega)).trans h.one, hs.below hl, hl⟩
theorem below_grown {B b : Nat} {W W' : World} (h : W.grownBy W' (some b)) (hb : B ≤ b) (hB : B ≤ W.heap.size) : Below B W W' :=
  ⟨h.os, h.tape, h.output, h.size, fun k hk => h.block k (by omega) (fun e => by injection e with e; omega)⟩
theorem below_grown_none {W W' : World} (h : W.grownBy W' none) : Below W.heap.size W W' :=
  ⟨h.os, h.tape, h.output, h.size, fun k hk => h.block k hk (by simp)⟩
theorem run_makeMapA (w : World) : (Instr.makeMap 163 none).run Tryz.prog w = .ok (.map (some w.heap.size)) (w.alloc (.map #[] 0)) := by rfl
theorem goesBy_any (k : Int) (w : World) (hk : k = 1 ∨ k = 2) : Calls Tryz.prog 160 #[.int .i64 k] w fun e w' => e = .returned (.int .i64 (2 + k)) ∧ w = w' := by
  rcases hk with rfl | rfl
  all_goals
    go_enter Tryz.func160, Tryz.ntmps160
    go_wp2_with fail
    go_ret
    exact ⟨rfl, rfl⟩
theorem wf_of {n : Int} (h : -9223372036854775808 ≤ n ∧ n ≤ 9223372036854775807) : (Lit.int .i64 n).wf = true := by
  simp [Lit.wf, IntKind.min, IntKind.max, IntKind.signed, IntKind.bits]
  omega
theorem asksN_small (p : Int) : 0 ≤ asksN p ∧ asksN p ≤ 7 := by
  unfold asksN
  repeat' split
  all_goals omega
theorem rightBt_id {b : Bt} (h : rightBt b = true) : 1 ≤ b.id ∧ b.id ≤ 1000000000000 := by
  simp only [rightBt, Bool.and_eq_true, aboveB, decide_eq_true_eq] at h
  exact h.1
/-- A map of what is needed is answered. -/
def NeedOut (M : List Key) (n : Nat) (w : World) (e : Ending) (w' : World) : Prop := ∃ b, e = .returned (.map (some b)) ∧ NM w' b n (fun x => (M.count x : Int)) ∧ w.heap.size ≤ b ∧ Below w.heap.size w w'
theorem keyW_o {o : Od} (h : o.id.size ≤ maxLen) : KeyW (asksN o.phase) 0 o.id := ⟨wf_of (by have := asksN_small o.phase; omega), wf_of (by omega), h⟩
theorem keyW_b {b : Bt} (hk : b.kind = 1 ∨ b.kind = 2) (h : rightBt b = true) : KeyW (2 + b.kind) b.id noT := ⟨wf_of (by omega), wf_of (by have := rightBt_id h; omega), by decide⟩

set_option maxHeartbeats 8000000 in
theorem needs_any (r : StR) (w : World) (h : StP w r) (ht : Tame r) (hb : ∀ x ∈ r.bats, rightBt x.b = true) : Calls Tryz.prog 129 #[stV r] w (NeedOut (musts (odsOf r.ords) (btsOf r.bats)) (r.ords.length + r.bats.length) w) := by
  have I := Lib.hid ((OnI.begin w r h).more (.map #[] 0))
  have N := Lib.hid (NM.made (w.alloc (.cells (stC r) 37)))
  obtain ⟨hl1, hl2, _⟩ := ht.few
  have p1 := h.ords.sl.cap
  have p2 := h.bats.sl.cap
  have HS := Lib.hid h
  have HT := Lib.hid ht
  have HR := Lib.hid hb
  have HA := Lib.hid (fun p W => asks_any p W)
  have hmm := run_makeMapA
  have c9 := I.out.one.st.2.2.2.2.1
  clear h ht hb
  go_enter Tryz.func129, Tryz.ntmps129
  go_wp2_with fail
  rw [show (w.alloc (.cells (stC r) 37)).heap.size = w.heap.size + 1 by simp] at N
  generalize (w.alloc (.cells (stC r) 37)).alloc (.map #[] 0) = W0 at *
  clear hmm
  go_loopw [13] (fun i wr => ∃ (k : Nat), k ≤ r.ords.length ∧ i = .int .i64 k ∧ Hid (OnI w r wr) ∧ Hid (NM wr (w.heap.size + 1) k (fun x => ((mustsK (odsOf r.ords) (btsOf r.bats) k 0).count x : Int)))) (fun i _ => r.ords.length - (intOf i).toNat)
  case atStart => exact ⟨0, Nat.zero_le _, rfl, I, Lib.hid (N.out.congr (fun x => by simp [mustsK, musts]))⟩
  case round =>
    clear I N c9
    obtain ⟨k, hk, rfl, HI, HN⟩ := hrel
    by_cases hlt : k < r.ords.length
    · obtain ⟨b, o, e, hb, _, ld, hP⟩ := HI.out.st.ords.ld k hlt
      have HM := Lib.hid (mustsK_o (os := odsOf r.ords) (btsOf r.bats) (j := k) (by simpa [odsOf] using hlt))
      have hget : (odsOf r.ords)[k]'(by simpa [odsOf] using hlt) = r.ords[k].o := by simp [odsOf]
      rw [hget] at HM
      have HK := Lib.hid (keyW_o hP.id)
      rw [e]
      clear e hP hget
      generalize r.ords[k] = x at *
      have R := Lib.hid (Row.new wr (orC x) 93)
      have J := Lib.hid (HI.out.more (.cells (orC x) 93))
      have N1 := Lib.hid (HN.out.below ((Below.refl _ _).alloc (Nat.le_refl _) (.cells (orC x) 93)))
      have d6 := R.out.o.2.2.1
      have CA := Lib.hid (HA.out x.o.phase (wr.alloc (.cells (orC x) 93)))
      have hs := asksN_small x.o.phase
      have HLen := Lib.hid (mustsK_len (odsOf r.ords) (btsOf r.bats) k 0)
      clear HI HN
      have HKE := Lib.hid (show asksB x.o = (asksN x.o.phase != 0) from rfl)
      have HKO := Lib.hid (show keyO x.o = keyX (asksN x.o.phase) 0 x.o.id from rfl)
      generalize keyO x.o = ky at *
      generalize asksB x.o = ab at *
      generalize asksN x.o.phase = n at *
      go_wp2_with fail
      refine CA.out.mono ?_
      rintro e w2 ⟨rfl, b2⟩
      have J2 := Lib.hid (J.out.below b2)
      have R2 := Lib.hid (R.out.below b2)
      have N2 := Lib.hid (N1.out.below b2)
      clear d6 CA b2 J N1 R ld
      cases k1 : (n == 0) with
      | true =>
        have k1d : (n != 0) = false := by simp only [bne, k1]; rfl
        have N3 := Lib.hid (N2.out.mono (Nat.le_succ k))
        rw [HKE.out, k1d] at HM
        have HM2 := Lib.hid (show mustsK (odsOf r.ords) (btsOf r.bats) (k + 1) 0 = mustsK (odsOf r.ords) (btsOf r.bats) k 0 by rw [HM.out]; rfl)
        go_wp2_with fail
        go_roundw
        case rel => exact ⟨k + 1, by omega, by go_num, J2, by rw [HM2.out]; exact N3⟩
        case measure => simp [intOf]; omega
      | false =>
        have k1d : (n != 0) = true := by simp only [bne, k1]; rfl
        rw [HKE.out, k1d] at HM
        have hcl : (List.count (keyX n 0 x.o.id) (mustsK (odsOf r.ords) (btsOf r.bats) k 0) : Int) ≤ 2000000 := by
          have h1 := cnt_le (mustsK (odsOf r.ords) (btsOf r.bats) k 0) (keyX n 0 x.o.id)
          have h2 := HLen.out
          simp only [odsOf, btsOf, List.length_map] at h2
          have h3 : List.count (keyX n 0 x.o.id) (mustsK (odsOf r.ords) (btsOf r.bats) k 0) ≤ 2000000 := by
            refine Nat.le_trans h1 (Nat.le_trans ?_ (by omega : r.ords.length + r.bats.length ≤ 2000000))
            exact h2
          omega
        have N3 : NM w2.drew (w.heap.size + 1) k (fun x => ((mustsK (odsOf r.ords) (btsOf r.bats) k 0).count x : Int)) := N2.out.block rfl
        obtain ⟨st, w3, e1, e2, e3, hst⟩ := N3.step HK.out (by unfold maxLen; omega)
        obtain ⟨w4, e4, N4, g4, _⟩ := hst ((List.count (keyX n 0 x.o.id) (mustsK (odsOf r.ords) (btsOf r.bats) k 0) : Int) + 1) (wf_of (by omega))
        have N5 := Lib.hid N4
        have J5 := Lib.hid ((J2.out.below (⟨rfl, rfl, rfl, Nat.le_refl _, fun _ _ => rfl⟩ : Below w2.heap.size w2 w2.drew)).keep HS.out (below_grown g4 (Nat.le_refl _) (by have := N2.out.lt; show _ ≤ w2.heap.size; omega)))
        have HM2 := Lib.hid (show ∀ y, updK (fun x => ((mustsK (odsOf r.ords) (btsOf r.bats) k 0).count x : Int)) (keyX n 0 x.o.id) ((List.count (keyX n 0 x.o.id) (mustsK (odsOf r.ords) (btsOf r.bats) k 0) : Int) + 1) y = ((mustsK (odsOf r.ords) (btsOf r.bats) (k + 1) 0).count y : Int) by
          intro y
          rw [HM.out, if_pos rfl, HKO.out, cnt_snoc]
          unfold updK
          by_cases hy : y = keyX n 0 x.o.id
          · subst hy
            simp
          · rw [if_neg hy, if_neg (fun e => hy e.symm)])
        have d0 := R2.out.o.1.1
        have hc0 : (0 : Int) ≤ (List.count (keyX n 0 x.o.id) (mustsK (odsOf r.ords) (btsOf r.bats) k 0) : Int) := by omega
        clear N3 N4 hst g4 J2 N2 HKO HM HKE HLen
        generalize (List.count (keyX n 0 x.o.id) (mustsK (odsOf r.ords) (btsOf r.bats) k 0) : Int) = c at *
        go_wp2_with fail
        go_region
        go_wp2_with fail
        go_roundw
        case rel => exact ⟨k + 1, by omega, by go_num, J5, Lib.hid (N5.out.congr HM2.out)⟩
        case measure => simp [intOf]; omega
    · have HM0 := Lib.hid (show mustsK (odsOf r.ords) (btsOf r.bats) k 0 = mustsK (odsOf r.ords) (btsOf r.bats) r.ords.length 0 by rw [show k = r.ords.length by omega])
      rw [HM0.out] at HN
      have HN2 := Lib.hid (HN.out.mono (show k ≤ r.ords.length + 0 by omega))
      have c10 := HI.out.one.st.2.2.2.2.2.1
      clear HN HM0
      go_wp2_with fail
      go_loopw [36] (fun i wi => ∃ (j : Nat), j ≤ r.bats.length ∧ i = .int .i64 j ∧ Hid (OnI w r wi) ∧ Hid (NM wi (w.heap.size + 1) (r.ords.length + j) (fun x => ((mustsK (odsOf r.ords) (btsOf r.bats) r.ords.length j).count x : Int)))) (fun i _ => r.bats.length - (intOf i).toNat)
      case atStart => exact ⟨0, Nat.zero_le _, rfl, HI, HN2⟩
      case round =>
        clear HI HN2 c10
        obtain ⟨j, hj, rfl, HI, HN⟩ := hrel
        by_cases hjl : j < r.bats.length
        · obtain ⟨b, o, e, hb, _, ld, hP⟩ := HI.out.st.bats.ld j hjl
          have HM := Lib.hid (mustsK_b (odsOf r.ords) (bs := btsOf r.bats) r.ords.length (k := j) (by simpa [btsOf] using hjl))
          have hget : (btsOf r.bats)[j]'(by simpa [btsOf] using hjl) = r.bats[j].b := by simp [btsOf]
          rw [hget] at HM
          have hmem : r.bats[j] ∈ r.bats := List.getElem_mem hjl
          have hkd := HT.out.kd _ hmem
          have HK := Lib.hid (keyW_b hkd (HR.out _ hmem))
          have CG := Lib.hid (fun W => goesBy_any r.bats[j].b.kind W hkd)
          have HLen := Lib.hid (mustsK_len (odsOf r.ords) (btsOf r.bats) r.ords.length j)
          rw [e]
          clear e hP hget hmem
          generalize r.bats[j] = x at *
          have R := Lib.hid (Row.new wr (baC x) 98)
          have J2 := Lib.hid (HI.out.more (.cells (baC x) 98))
          have N2 := Lib.hid (HN.out.below ((Below.refl _ _).alloc (Nat.le_refl _) (.cells (baC x) 98)))
          have d4 := R.out.b.1.2.2.2.2
          clear HI HN
          have HKE := Lib.hid (show outB x.b = (x.b.phase == 2) from rfl)
          have HKO := Lib.hid (show keyB x.b = keyX (2 + x.b.kind) x.b.id noT from rfl)
          generalize keyB x.b = ky at *
          generalize outB x.b = ab at *
          cases k1 : (x.b.phase == 2) with
          | false =>
            have N3 := Lib.hid (N2.out.mono (Nat.le_succ _))
            rw [HKE.out, k1] at HM
            have HM2 := Lib.hid (show mustsK (odsOf r.ords) (btsOf r.bats) r.ords.length (j + 1) = mustsK (odsOf r.ords) (btsOf r.bats) r.ords.length j by rw [HM.out]; rfl)
            go_wp2_with fail
            go_roundw
            case rel => exact ⟨j + 1, by omega, by go_num, J2, by rw [HM2.out]; exact N3⟩
            case measure => simp [intOf]; omega
          | true =>
            rw [HKE.out, k1] at HM
            have HM3 := Lib.hid (show mustsK (odsOf r.ords) (btsOf r.bats) r.ords.length (j + 1) = mustsK (odsOf r.ords) (btsOf r.bats) r.ords.length j ++ [ky] by rw [HM.out]; rfl)
            clear HM
            go_wp2_with fail
            generalize wr.alloc (.cells (baC x) 98) = w2 at *
            generalize wr.heap.size = g at *
            clear ld
            have hcl : (List.count (keyX (2 + x.b.kind) x.b.id noT) (mustsK (odsOf r.ords) (btsOf r.bats) r.ords.length j) : Int) ≤ 2000000 := by
              have h1 := cnt_le (mustsK (odsOf r.ords) (btsOf r.bats) r.ords.length j) (keyX (2 + x.b.kind) x.b.id noT)
              have h2 := HLen.out
              simp only [odsOf, btsOf, List.length_map] at h2
              have h3 : List.count (keyX (2 + x.b.kind) x.b.id noT) (mustsK (odsOf r.ords) (btsOf r.bats) r.ords.length j) ≤ 2000000 := by
                refine Nat.le_trans h1 (Nat.le_trans ?_ (by omega : r.ords.length + r.bats.length ≤ 2000000))
                exact h2
              omega
            have N3 : NM w2.drew (w.heap.size + 1) (r.ords.length + j) (fun x => ((mustsK (odsOf r.ords) (btsOf r.bats) r.ords.length j).count x : Int)) := N2.out.block rfl
            obtain ⟨st, w3, e1, e2, e3, hst⟩ := N3.step HK.out (by unfold maxLen; omega)
            obtain ⟨w4, e4, N4, g4, _⟩ := hst ((List.count (keyX (2 + x.b.kind) x.b.id noT) (mustsK (odsOf r.ords) (btsOf r.bats) r.ords.length j) : Int) + 1) (wf_of (by omega))
            have N5 := Lib.hid N4
            have J5 := Lib.hid ((J2.out.below (⟨rfl, rfl, rfl, Nat.le_refl _, fun _ _ => rfl⟩ : Below w2.heap.size w2 w2.drew)).keep HS.out (below_grown g4 (Nat.le_refl _) (by have := N2.out.lt; show _ ≤ w2.heap.size; omega)))
            have HM2 := Lib.hid (show ∀ y, updK (fun x => ((mustsK (odsOf r.ords) (btsOf r.bats) r.ords.length j).count x : Int)) (keyX (2 + x.b.kind) x.b.id noT) ((List.count (keyX (2 + x.b.kind) x.b.id noT) (mustsK (odsOf r.ords) (btsOf r.bats) r.ords.length j) : Int) + 1) y = ((mustsK (odsOf r.ords) (btsOf r.bats) r.ords.length (j + 1)).count y : Int) by
              intro y
              rw [HM3.out, HKO.out, cnt_snoc]
              unfold updK
              by_cases hy : y = keyX (2 + x.b.kind) x.b.id noT
              · subst hy
                simp
              · rw [if_neg hy, if_neg (fun e => hy e.symm)])
            have d0 : w2.drew.cell? ⟨g, 0, none⟩ = some (.int .i64 x.b.id) := R.out.b.1.1
            have d3 : w2.drew.cell? ⟨g, 3, none⟩ = some (.int .i64 x.b.kind) := R.out.b.1.2.2.2.1
            have hc0 : (0 : Int) ≤ (List.count (keyX (2 + x.b.kind) x.b.id noT) (mustsK (odsOf r.ords) (btsOf r.bats) r.ords.length j) : Int) := by omega
            clear N3 N4 hst g4 J2 N2 HKO HM3 HKE HLen d4
            generalize (List.count (keyX (2 + x.b.kind) x.b.id noT) (mustsK (odsOf r.ords) (btsOf r.bats) r.ords.length j) : Int) = c at *
            have hwr : IntKind.i64.wrap (c + 1) = c + 1 := IntWalk.i64_in _ (by omega)
            generalize 2 + x.b.kind = kd at *
            unfold akV noT at e1 e2 e3
            go_region_with (go_at_call 160; refine (CG.out _).mono ?_; rintro e w' ⟨rfl, rfl⟩)
            all_goals
              go_wp2_with fail
              go_roundw
              case rel => exact ⟨j + 1, by omega, by go_num, J5, Lib.hid (N5.out.congr HM2.out)⟩
              case measure => simp [intOf]; omega
        · have HM0 := Lib.hid (show mustsK (odsOf r.ords) (btsOf r.bats) r.ords.length j = musts (odsOf r.ords) (btsOf r.bats) by
            rw [show j = r.bats.length by omega]
            have := mustsK_all (odsOf r.ords) (btsOf r.bats)
            simpa [odsOf, btsOf] using this)
          rw [HM0.out] at HN
          have HN2 := Lib.hid (HN.out.mono (show r.ords.length + j ≤ r.ords.length + r.bats.length by omega))
          go_wp2_with fail
          go_ret
          exact ⟨w.heap.size + 1, rfl, HN2.out, by omega, HI.out.low⟩
end

/- StAsked: What package state's isAskedFor answers. -/
section
set_option maxRecDepth 100000
open Go.RowKit Go.ChangeShapes Go.WideShapes Go.ChangeAt
attribute [local go_sem ↓] ldOr stOr alOr bxOr bdOr ldBa stBa alBa bxBa bdBa ldSt stSt alSt bxSt bdSt ldEf stEf alEf bxEf eqEf bdEf bsEf ldGr bxGr eqGr ldCa bxCa eqCa bdAk alAk stAk ldAk
attribute [local go_sem] al_or bx_or st_ornew bd_or al_ba bx_ba st_banew bd_ba al_sta bx_sta st_stnew bd_sta al_ef bx_ef st_new bd_ef bs_ef bs_ef0 bx_gr ne_gr bx_ca ne_ca eq_caX eq_grX bd_ak2 bd_ak1 bd_ak3 al_ak st_aknew

theorem keyW_e {e : Ef} (h : oneB e = true) (hs : e.order.size ≤ maxLen) : KeyW e.kind e.batch e.order := by
  unfold oneB at h
  rw [Bool.and_eq_true, Bool.and_eq_true, Bool.and_eq_true] at h
  have h4 := h.2.2.2
  have hk : (1 ≤ e.kind ∧ e.kind ≤ 7) ∧ 0 ≤ e.batch ∧ e.batch ≤ 1000000000000 := by
    unfold ofB at h4
    cases hb : bothB e.kind with
    | true =>
      rw [hb, if_pos rfl, Bool.and_eq_true] at h4
      have h5 := h4.1
      simp only [aboveB, decide_eq_true_eq] at h5
      simp only [bothB, decide_eq_true_eq] at hb
      omega
    | false =>
      rw [hb] at h4
      simp only [Bool.false_eq_true, if_false] at h4
      cases hs2 : soleB e.kind with
      | true =>
        rw [hs2, if_pos rfl, Bool.and_eq_true] at h4
        have h5 := h4.1
        simp only [decide_eq_true_eq] at h5
        simp only [soleB, decide_eq_true_eq] at hs2
        omega
      | false =>
        rw [hs2] at h4
        simp at h4
  exact ⟨wf_of (by omega), wf_of (by omega), hs⟩

set_option maxHeartbeats 8000000 in
theorem isAsked_any (r : StR) (w : World) (h : StP w r) (ht : Tame r) (hb : ∀ x ∈ r.bats, rightBt x.b = true) (he : rightE r.effs = true) (q : Bool) (hq : q = true ↔ (r.effs.map keyE).Perm (musts (odsOf r.ords) (btsOf r.bats))) : Calls Tryz.prog 87 #[stV r] w (Tell q w) := by
  have I := Lib.hid (OnI.begin w r h)
  obtain ⟨hl1, hl2, hl3⟩ := ht.few
  have p3 := h.effs.sl.cap
  have HS := Lib.hid h
  have HQ := Lib.hid hq
  have HO := Lib.hid (((rightE_iff r.effs).1 he).1)
  have HEs := Lib.hid h.effs.each
  have HOs := Lib.hid (fun x hx => (h.ords.each x hx).id)
  have HT := Lib.hid ht
  have HR := Lib.hid hb
  have CN := Lib.hid (fun W hW => needs_any r W hW ht hb)
  have ld := ld_sta I.out.one
  clear h ht hb he hq
  go_enter Tryz.func87, Tryz.ntmps87
  go_wp2_with fail
  generalize w.alloc (.cells (stC r) 37) = W0 at *
  refine (CN.out _ I.out.st).mono ?_
  rintro e W1 ⟨b, rfl, hN, hge, b1⟩
  have J := Lib.hid (I.out.below b1)
  have hW0 : w.heap.size < W0.heap.size := I.out.one.lt
  have hbw : w.heap.size + 1 ≤ b := by omega
  have HM := Lib.hid (show ∀ x, x ∈ musts (odsOf r.ords) (btsOf r.bats) → ∃ k bt s, KeyW k bt s ∧ x = keyX k bt s by
    intro x hx
    unfold musts at hx
    rcases List.mem_append.1 hx with hx | hx
    · obtain ⟨o, ho, rfl⟩ := List.mem_map.1 hx
      obtain ⟨y, hy, rfl⟩ := List.mem_map.1 (List.mem_filter.1 ho).1
      exact ⟨_, _, _, keyW_o (HOs.out y hy), rfl⟩
    · obtain ⟨o, ho, rfl⟩ := List.mem_map.1 hx
      obtain ⟨y, hy, rfl⟩ := List.mem_map.1 (List.mem_filter.1 ho).1
      exact ⟨_, _, _, keyW_b (HT.out.kd y hy) (HR.out y hy), rfl⟩)
  have HML := Lib.hid (show (musts (odsOf r.ords) (btsOf r.bats)).length ≤ 2000000 by
    have := mustsK_len (odsOf r.ords) (btsOf r.bats) (odsOf r.ords).length (btsOf r.bats).length
    rw [mustsK_all] at this
    simp only [odsOf, btsOf, List.length_map] at this
    refine Nat.le_trans this (by omega))
  generalize musts (odsOf r.ords) (btsOf r.bats) = M at *
  have N0 := Lib.hid (hN.congr (g := cntF M []) (fun x => by simp [cntF]))
  have c11 := J.out.one.st.2.2.2.2.2.2
  clear ld b1 I hN CN
  go_wp2_with fail
  go_loopw [14] (fun i wr => ∃ (k : Nat), k ≤ r.effs.length ∧ i = .int .i64 k ∧ Hid (OnI w r wr) ∧ Hid (NM wr b (r.ords.length + r.bats.length + k) (cntF M ((r.effs.take k).map keyE))) ∧ Hid (∀ x, 0 ≤ cntF M ((r.effs.take k).map keyE) x)) (fun i _ => r.effs.length - (intOf i).toNat)
  case atStart => exact ⟨0, Nat.zero_le _, rfl, J, N0, Lib.hid (fun x => by simp [cntF])⟩
  case round =>
    clear J N0 c11
    obtain ⟨k, hk, rfl, HI, HN, HP⟩ := hrel
    by_cases hlt : k < r.effs.length
    · obtain ⟨b2, o, e, hb2, ld, hsz⟩ := HI.out.st.effs.ld k hlt
      have HW := Lib.hid (keyW_e (HO.out _ (List.getElem_mem hlt)) (HEs.out _ (List.getElem_mem hlt)))
      have HTk := Lib.hid (show (r.effs.take (k + 1)).map keyE = (r.effs.take k).map keyE ++ [keyE r.effs[k]] by rw [List.take_succ_eq_append_getElem hlt, List.map_append]; rfl)
      have HZ := Lib.hid (show cntF M ((r.effs.take k).map keyE) (keyE r.effs[k]) = 0 → ¬ (r.effs.map keyE).Perm M by
        intro hz
        have hd : r.effs.map keyE = (r.effs.take k).map keyE ++ keyE r.effs[k] :: (r.effs.drop (k + 1)).map keyE := by
          rw [← List.map_cons, ← List.drop_eq_getElem_cons hlt, ← List.map_append, List.take_append_drop]
        rw [hd]
        exact not_perm_zero hz)
      rw [e]
      clear e
      generalize r.effs[k] = y at *
      have HKy := Lib.hid (show keyE y = keyX y.kind y.batch y.order from rfl)
      have HC0 := Lib.hid (HP.out (keyE y))
      have HCm := Lib.hid (show cntF M ((r.effs.take k).map keyE) (keyE y) ≤ (M.count (keyE y) : Int) by unfold cntF; omega)
      have hMc : (M.count (keyE y) : Int) ≤ 9000000000000000000 := by
        have h1 := cnt_le M (keyE y)
        have h2 := HML.out
        omega
      generalize (r.effs.take k).map keyE = K0 at *
      have R1 := Lib.hid (Row.new wr (efC y) 138)
      have J1 := Lib.hid (HI.out.more (.cells (efC y) 138))
      have N1 := Lib.hid (HN.out.below ((Below.refl _ _).alloc (Nat.le_refl _) (.cells (efC y) 138)))
      obtain ⟨⟨d0, d1, d2⟩, d3, d4, d5⟩ := R1.out.e
      have J2 := Lib.hid (J1.out.more (.cells (akC y.kind y.batch y.order) 166))
      have N2 := Lib.hid (N1.out.below ((Below.refl _ _).alloc (Nat.le_refl _) (.cells (akC y.kind y.batch y.order) 166)))
      have R2 := Lib.hid (Row.new (wr.alloc (.cells (efC y) 138)) (akC y.kind y.batch y.order) 166)
      have hmx : r.ords.length + r.bats.length + k < maxLen := by unfold maxLen; omega
      obtain ⟨st0, w30, f1, _, _, _⟩ := N2.out.step HW.out hmx
      rw [← HKy.out] at f1
      have ld2 := ld_ak R2.out
      rw [show (wr.alloc (.cells (efC y) 138)).heap.size = wr.heap.size + 1 by simp] at ld2
      have st6 : StX 166 (.pointer (some ⟨wr.heap.size + 1, 0, none⟩)) (akV y.kind y.batch y.order) ((wr.alloc (.cells (efC y) 138)).alloc (.cells (akC 0 0 noT) 166)) = .ok .skip ((wr.alloc (.cells (efC y) 138)).alloc (.cells (akC y.kind y.batch y.order) 166)) := by
        have h := st_aknew (wr.alloc (.cells (efC y) 138)) y.kind y.batch y.order
        rwa [show (wr.alloc (.cells (efC y) 138)).heap.size = wr.heap.size + 1 by simp] at h
      have hnm : cntF M K0 (keyE y) = cntF M K0 (keyE y) := rfl
      clear HI HN hnm
      cases k1 : (cntF M K0 (keyE y) == 0) with
      | true =>
        have HX := Lib.hid (show q = false by
          cases hq : q with
          | false => rfl
          | true => exact absurd (HQ.out.1 hq) (HZ.out (by simpa using k1)))
        generalize cntF M K0 (keyE y) = c at *
        go_wp2_with fail
        go_ret
        exact ⟨by rw [HX.out]; try rfl, J2.out.low⟩
      | false =>
        have N3 : NM ((wr.alloc (.cells (efC y) 138)).alloc (.cells (akC y.kind y.batch y.order) 166)).drew b (r.ords.length + r.bats.length + k) (cntF M K0) := N2.out.block rfl
        have ld3 : LdX 166 (.pointer (some ⟨wr.heap.size + 1, 0, none⟩)) ((wr.alloc (.cells (efC y) 138)).alloc (.cells (akC y.kind y.batch y.order) 166)).drew = .ok (.value (akV y.kind y.batch y.order)) ((wr.alloc (.cells (efC y) 138)).alloc (.cells (akC y.kind y.batch y.order) 166)).drew := by
          have h := ld_ak (W := ((wr.alloc (.cells (efC y) 138)).alloc (.cells (akC y.kind y.batch y.order) 166)).drew) (g := (wr.alloc (.cells (efC y) 138)).heap.size) (k := y.kind) (b := y.batch) (s := y.order) R2.out
          rwa [show (wr.alloc (.cells (efC y) 138)).heap.size = wr.heap.size + 1 by simp] at h
        obtain ⟨st, w3, e1, e2, e3, hst⟩ := N3.step HW.out hmx
        rw [← HKy.out] at e1 e2 e3 hst
        obtain ⟨w4, e4, N4, g4, _⟩ := hst (cntF M K0 (keyE y) - 1) (wf_of (by have := HC0.out; have := HCm.out; omega))
        have N5 := Lib.hid N4
        have J5 := Lib.hid ((J2.out.below (⟨rfl, rfl, rfl, Nat.le_refl _, fun _ _ => rfl⟩ : Below ((wr.alloc (.cells (efC y) 138)).alloc (.cells (akC y.kind y.batch y.order) 166)).heap.size ((wr.alloc (.cells (efC y) 138)).alloc (.cells (akC y.kind y.batch y.order) 166)) ((wr.alloc (.cells (efC y) 138)).alloc (.cells (akC y.kind y.batch y.order) 166)).drew)).keep HS.out (below_grown g4 hbw (by have := N2.out.lt; show _ ≤ ((wr.alloc (.cells (efC y) 138)).alloc (.cells (akC y.kind y.batch y.order) 166)).heap.size; omega)))
        have HU := Lib.hid (show ∀ x, updK (cntF M K0) (keyE y) (cntF M K0 (keyE y) - 1) x = cntF M (K0 ++ [keyE y]) x by
          intro x
          rw [cntF_snoc]
          unfold updK
          by_cases hx : x = keyE y
          · subst hx
            simp
          · rw [if_neg hx, if_neg (fun e => hx e.symm)])
        have HP2 := Lib.hid (show ∀ x, 0 ≤ cntF M (K0 ++ [keyE y]) x by
          intro x
          rw [cntF_snoc]
          split
          · rename_i hx
            subst hx
            have h0 := HC0.out
            have h1 : cntF M K0 (keyE y) ≠ 0 := by simpa using k1
            omega
          · exact HP.out x)
        have hwr : IntKind.i64.wrap (cntF M K0 (keyE y) - 1) = cntF M K0 (keyE y) - 1 := IntWalk.i64_in _ (by have := HC0.out; have := HCm.out; omega)
        clear N3 N4 hst g4 J2 N2 HKy HC0 HCm HZ HP
        generalize cntF M K0 (keyE y) = c at *
        go_wp2_with fail
        go_region
        go_wp2_with fail
        go_roundw
        case rel => exact ⟨k + 1, by omega, by go_num, J5, by rw [HTk.out]; exact Lib.hid (N5.out.congr HU.out), by rw [HTk.out]; exact HP2⟩
        case measure => simp [intOf]; omega
    · have HT2 := Lib.hid (show (r.effs.take k).map keyE = r.effs.map keyE by rw [List.take_of_length_le (by omega)])
      rw [HT2.out] at HN HP
      clear HT2
      obtain ⟨w5, g1, hG, g5⟩ := HN.out.range
      have B5 := Lib.hid (HI.out.low.trans ((below_grown_none g5).mono HI.out.low.size))
      have G := Lib.hid hG
      have hwr0 : w.heap.size ≤ wr.heap.size := HI.out.low.size
      clear HN HI hG g5
      generalize r.ords.length + r.bats.length + k = nn at *
      go_wp2_with fail
      generalize wr.heap.size = g at *
      go_loopw [] (fun wi => Hid (RG wi b g nn (cntF M (r.effs.map keyE))) ∧ Hid (Below w.heap.size w wi)) (fun wi => wi.rangeLeft b g)
      case atStart => exact ⟨G, B5⟩
      case round =>
        clear G B5 g1
        obtain ⟨HG, HB⟩ := hrel
        rcases HG.out.next 0 with ⟨hn, hall⟩ | ⟨key, v, w6, hn, hent, hv, hG2, hg6, hlt6⟩
        · have HX := Lib.hid (show q = true from HQ.out.2 (perm_of_cnt HP.out (fun x => by
            by_cases hx : x ∈ M
            · obtain ⟨k2, bt2, s2, hW2, rfl⟩ := HM.out x hx
              exact hall _ _ _ hW2
            · unfold cntF
              rw [List.count_eq_zero_of_not_mem hx]
              omega)))
          go_wp2_with fail
          go_ret
          exact ⟨by rw [HX.out]; try rfl, HB.out⟩
        · have B6 := Lib.hid (HB.out.trans ((below_grown hg6 (Nat.le_refl _) (Nat.le_of_lt (by obtain ⟨D, l2, c2, hr2, _⟩ := HG.out; exact hr2.lt))).mono hwr0))
          by_cases hv0 : 0 < v
          · have HX := Lib.hid (show q = false by
              obtain ⟨k2, bt2, s2, _, rfl⟩ := hv
              cases hq : q with
              | false => rfl
              | true => exact absurd (HQ.out.1 hq) (not_perm_short hv0))
            clear hv hG2 hlt6 hg6
            go_wp2_with fail
            go_ret
            exact ⟨by rw [HX.out]; try rfl, B6.out⟩
          · have G6 := Lib.hid (hG2 (by omega))
            clear hv hG2 hg6
            have HL := Lib.hid hlt6
            clear hlt6
            go_wp2_with fail
            go_roundw
            case rel => exact ⟨G6, B6⟩
            case measure => exact HL.out
end

/- StProg: What package state's Right and New answer. -/
section
set_option maxRecDepth 100000
open Go.RowKit Go.ChangeShapes Go.WideShapes Go.ChangeAt
attribute [local go_sem ↓] ldOr stOr alOr bxOr bdOr ldBa stBa alBa bxBa bdBa ldSt stSt alSt bxSt bdSt ldEf stEf alEf bxEf eqEf bdEf bsEf ldGr bxGr eqGr ldCa bxCa eqCa
attribute [local go_sem] al_or bx_or st_ornew bd_or al_ba bx_ba st_banew bd_ba al_sta bx_sta st_stnew bd_sta al_ef bx_ef st_new bd_ef bs_ef bs_ef0 bx_gr ne_gr bx_ca ne_ca eq_caX eq_grX

theorem right_split (r : StR) : rightS r.st = (capsB r.waves && (capsB r.mans && (limitB r.limit && (fitsB r.doors && (tickB r.now && (aboveB r.nb && (aboveB r.nk && ((decide (r.ords.length ≤ 400) && goodO none (odsOf r.ords)) && (goodB (odsOf r.ords) r.nb none (btsOf r.bats) && ((odsOf r.ords).all (heldIn (btsOf r.bats)) && ((rightE r.effs && decide (∀ hne : r.effs ≠ [], (r.effs.getLast hne).key < r.nk)) && decide ((r.effs.map keyE).Perm (musts (odsOf r.ords) (btsOf r.bats)))))))))))))) := by
  have e0 : rightS r.st = ((capsB r.waves && (capsB r.mans && (limitB r.limit && (fitsB r.doors && (tickB r.now && (aboveB r.nb && aboveB r.nk)))))) && (decide (r.ords.length ≤ 400) && (goodO none (odsOf r.ords) && (goodB (odsOf r.ords) r.nb none (btsOf r.bats) && ((odsOf r.ords).all (heldIn (btsOf r.bats)) && effsOk (odsOf r.ords) (btsOf r.bats) r.effs r.nk))))) := by
    unfold rightS limitsB StR.st
    simp only [odsOf, List.length_map]
  rw [e0]
  cases h1 : goodO none (odsOf r.ords) with
  | false => simp
  | true =>
    cases h2 : goodB (odsOf r.ords) r.nb none (btsOf r.bats) with
    | false => simp
    | true =>
      have hn : (musts (odsOf r.ords) (btsOf r.bats)).Nodup := musts_nodup (goodO_pair _ _ h1).1 (goodB_pair _ _ _ _ h2).1 (goodO_all _ _ h1)
      have e1 : effsOk (odsOf r.ords) (btsOf r.bats) r.effs r.nk = ((rightE r.effs && decide (∀ hne : r.effs ≠ [], (r.effs.getLast hne).key < r.nk)) && decide ((r.effs.map keyE).Perm (musts (odsOf r.ords) (btsOf r.bats)))) := by
        rw [Bool.eq_iff_iff, effsOk_iff r.effs r.nk hn]
        simp only [Bool.and_eq_true, decide_eq_true_eq]
        constructor
        · rintro ⟨a, b, c⟩
          exact ⟨⟨c, (rightE_last c r.nk).1 b⟩, a⟩
        · rintro ⟨⟨a, b⟩, c⟩
          exact ⟨c, (rightE_last a r.nk).2 b, a⟩
      rw [e1]
      simp only [Bool.and_assoc]

set_option maxHeartbeats 16000000 in
theorem right_of : RightC := by
  intro r w h hf
  have I := Lib.hid (OnI.begin w r h)
  have HV := Lib.hid hf
  have hdl := h.dlen
  have HE := Lib.hid (right_split r)
  generalize rightS r.st = res at *
  have c := I.out.one.st
  obtain ⟨⟨c0, c1, c2, c3, c4, c5⟩, c6, c7, c8, c9, _⟩ := c
  have ld1 := ld_caAt c0 c1
  have ld2 := ld_caAt c2 c3
  clear h c0 c1 c2 c3 hf
  go_enter Tryz.func25, Tryz.ntmps25
  go_wp2_with fail
  generalize w.alloc (.cells (stC r) 37) = W0 at *
  have C := Lib.hid (caps_any r.waves W0)
  cases k1 : capsB r.waves with
  | false =>
    have HX := Lib.hid (show res = false by rw [HE.out]; simp only [k1, Bool.false_and])
    rw [k1] at C
    refine C.out.mono ?_
    rintro e W1 ⟨rfl, b1⟩
    have J := Lib.hid (I.out.below b1)
    clear C ld1 ld2 c4 c5 c6 c7 c8 c9
    go_wp2_with fail
    go_ret
    exact ⟨by rw [HX.out]; try rfl, J.out.low⟩
  | true =>
    rw [k1] at C
    refine C.out.mono ?_
    rintro e W1 ⟨rfl, b1⟩
    have J := Lib.hid (I.out.below b1)
    clear C ld1 ld2 c4 c5 c6 c7 c8 c9 b1 I
    have I := J
    clear J
    have c := I.out.one.st
    obtain ⟨⟨c0, c1, c2, c3, c4, c5⟩, c6, c7, c8, c9, _⟩ := c
    have ld1 := ld_caAt c0 c1
    have ld2 := ld_caAt c2 c3
    clear c0 c1 c2 c3
    go_wp2_with fail
    have C := Lib.hid (caps_any r.mans W1)
    cases k2 : capsB r.mans with
    | false =>
      have HX := Lib.hid (show res = false by rw [HE.out]; simp only [k1, k2, Bool.true_and, Bool.false_and])
      rw [k2] at C
      refine C.out.mono ?_
      rintro e W2 ⟨rfl, b1⟩
      have J := Lib.hid (I.out.below b1)
      clear C ld1 ld2 c4 c5 c6 c7 c8 c9
      go_wp2_with fail
      go_ret
      exact ⟨by rw [HX.out]; try rfl, J.out.low⟩
    | true =>
      rw [k2] at C
      refine C.out.mono ?_
      rintro e W2 ⟨rfl, b1⟩
      have J := Lib.hid (I.out.below b1)
      clear C ld1 ld2 c4 c5 c6 c7 c8 c9 b1 I
      have I := J
      clear J
      have c := I.out.one.st
      obtain ⟨⟨c0, c1, c2, c3, c4, c5⟩, c6, c7, c8, c9, _⟩ := c
      have ld1 := ld_caAt c0 c1
      have ld2 := ld_caAt c2 c3
      clear c0 c1 c2 c3
      go_wp2_with fail
      have C := Lib.hid (isLimit_any r.limit W2)
      cases k3 : limitB r.limit with
      | false =>
        have HX := Lib.hid (show res = false by rw [HE.out]; simp only [k1, k2, k3, Bool.true_and, Bool.false_and])
        rw [k3] at C
        refine C.out.mono ?_
        rintro e W3 ⟨rfl, rfl⟩
        have J := I
        clear C ld1 ld2 c4 c5 c6 c7 c8 c9
        go_wp2_with fail
        go_ret
        exact ⟨by rw [HX.out]; try rfl, J.out.low⟩
      | true =>
        rw [k3] at C
        refine C.out.mono ?_
        rintro e W3 ⟨rfl, rfl⟩
        have J := I
        clear C J
        go_wp2_with fail
        have C := Lib.hid (areDoorsS_any r.da r.dc r.doors W2 I.out.st.doors hdl)
        cases k4 : fitsB r.doors with
        | false =>
          have HX := Lib.hid (show res = false by rw [HE.out]; simp only [k1, k2, k3, k4, Bool.true_and, Bool.false_and])
          rw [k4] at C
          refine C.out.mono ?_
          rintro e W4 ⟨rfl, b1⟩
          have J := Lib.hid (I.out.below b1)
          clear C ld1 ld2 c4 c5 c6 c7 c8 c9
          go_wp2_with fail
          go_ret
          exact ⟨by rw [HX.out]; try rfl, J.out.low⟩
        | true =>
          rw [k4] at C
          refine C.out.mono ?_
          rintro e W4 ⟨rfl, b1⟩
          have J := Lib.hid (I.out.below b1)
          clear C ld1 ld2 c4 c5 c6 c7 c8 c9 b1 I
          have I := J
          clear J
          have c := I.out.one.st
          obtain ⟨⟨c0, c1, c2, c3, c4, c5⟩, c6, c7, c8, c9, _⟩ := c
          have ld1 := ld_caAt c0 c1
          have ld2 := ld_caAt c2 c3
          clear c0 c1 c2 c3
          go_wp2_with fail
          have C := Lib.hid (tick_any r.now W4)
          cases k5 : tickB r.now with
          | false =>
            have HX := Lib.hid (show res = false by rw [HE.out]; simp only [k1, k2, k3, k4, k5, Bool.true_and, Bool.false_and])
            rw [k5] at C
            refine C.out.mono ?_
            rintro e W5 ⟨rfl, rfl⟩
            have J := I
            clear C ld1 ld2 c4 c5 c6 c7 c8 c9
            go_wp2_with fail
            go_ret
            exact ⟨by rw [HX.out]; try rfl, J.out.low⟩
          | true =>
            rw [k5] at C
            refine C.out.mono ?_
            rintro e W5 ⟨rfl, rfl⟩
            have J := I
            clear C J
            go_wp2_with fail
            have C := Lib.hid (isNext_any r.nb W4)
            cases k6 : aboveB r.nb with
            | false =>
              have HX := Lib.hid (show res = false by rw [HE.out]; simp only [k1, k2, k3, k4, k5, k6, Bool.true_and, Bool.false_and])
              rw [k6] at C
              refine C.out.mono ?_
              rintro e W6 ⟨rfl, rfl⟩
              have J := I
              clear C ld1 ld2 c4 c5 c6 c7 c8 c9
              go_wp2_with fail
              go_ret
              exact ⟨by rw [HX.out]; try rfl, J.out.low⟩
            | true =>
              rw [k6] at C
              refine C.out.mono ?_
              rintro e W6 ⟨rfl, rfl⟩
              have J := I
              clear C J
              go_wp2_with fail
              have C := Lib.hid (isNext_any r.nk W4)
              cases k7 : aboveB r.nk with
              | false =>
                have HX := Lib.hid (show res = false by rw [HE.out]; simp only [k1, k2, k3, k4, k5, k6, k7, Bool.true_and, Bool.false_and])
                rw [k7] at C
                refine C.out.mono ?_
                rintro e W7 ⟨rfl, rfl⟩
                have J := I
                clear C ld1 ld2 c4 c5 c6 c7 c8 c9
                go_wp2_with fail
                go_ret
                exact ⟨by rw [HX.out]; try rfl, J.out.low⟩
              | true =>
                rw [k7] at C
                refine C.out.mono ?_
                rintro e W7 ⟨rfl, rfl⟩
                have J := I
                clear C J
                go_wp2_with fail
                have C := Lib.hid (areOrders_any r.oa r.oc r.ords W4 I.out.st.ords)
                cases k8 : (decide (r.ords.length ≤ 400) && goodO none (odsOf r.ords)) with
                | false =>
                  have HX := Lib.hid (show res = false by rw [HE.out]; simp only [k1, k2, k3, k4, k5, k6, k7, k8, Bool.true_and, Bool.false_and])
                  rw [k8] at C
                  refine C.out.mono ?_
                  rintro e W8 ⟨rfl, b1⟩
                  have J := Lib.hid (I.out.below b1)
                  clear C ld1 ld2 c4 c5 c6 c7 c8 c9
                  go_wp2_with fail
                  go_ret
                  exact ⟨by rw [HX.out]; try rfl, J.out.low⟩
                | true =>
                  rw [k8] at C
                  refine C.out.mono ?_
                  rintro e W8 ⟨rfl, b1⟩
                  have J := Lib.hid (I.out.below b1)
                  clear C ld1 ld2 c4 c5 c6 c7 c8 c9 b1 I
                  have I := J
                  clear J
                  have c := I.out.one.st
                  obtain ⟨⟨c0, c1, c2, c3, c4, c5⟩, c6, c7, c8, c9, _⟩ := c
                  have ld1 := ld_sta I.out.one
                  have ld2 := ld_caAt c2 c3
                  clear c0 c1 c2 c3
                  go_wp2_with fail
                  have C := Lib.hid (areBatches_any r W8 I.out.st)
                  cases k9 : goodB (odsOf r.ords) r.nb none (btsOf r.bats) with
                  | false =>
                    have HX := Lib.hid (show res = false by rw [HE.out]; simp only [k1, k2, k3, k4, k5, k6, k7, k8, k9, Bool.true_and, Bool.false_and])
                    rw [k9] at C
                    refine C.out.mono ?_
                    rintro e W9 ⟨rfl, b1⟩
                    have J := Lib.hid (I.out.below b1)
                    clear C ld1 ld2 c4 c5 c6 c7 c8 c9
                    go_wp2_with fail
                    go_ret
                    exact ⟨by rw [HX.out]; try rfl, J.out.low⟩
                  | true =>
                    rw [k9] at C
                    refine C.out.mono ?_
                    rintro e W9 ⟨rfl, b1⟩
                    have J := Lib.hid (I.out.below b1)
                    clear C ld1 ld2 c4 c5 c6 c7 c8 c9 b1 I
                    have I := J
                    clear J
                    have c := I.out.one.st
                    obtain ⟨⟨c0, c1, c2, c3, c4, c5⟩, c6, c7, c8, c9, _⟩ := c
                    have ld1 := ld_sta I.out.one
                    have ld2 := ld_caAt c2 c3
                    clear c0 c1 c2 c3
                    go_wp2_with fail
                    have C := Lib.hid (areIn_any r W9 I.out.st)
                    cases k10 : (odsOf r.ords).all (heldIn (btsOf r.bats)) with
                    | false =>
                      have HX := Lib.hid (show res = false by rw [HE.out]; simp only [k1, k2, k3, k4, k5, k6, k7, k8, k9, k10, Bool.true_and, Bool.false_and])
                      rw [k10] at C
                      refine C.out.mono ?_
                      rintro e W10 ⟨rfl, b1⟩
                      have J := Lib.hid (I.out.below b1)
                      clear C ld1 ld2 c4 c5 c6 c7 c8 c9
                      go_wp2_with fail
                      go_ret
                      exact ⟨by rw [HX.out]; try rfl, J.out.low⟩
                    | true =>
                      rw [k10] at C
                      refine C.out.mono ?_
                      rintro e W10 ⟨rfl, b1⟩
                      have J := Lib.hid (I.out.below b1)
                      clear C ld1 ld2 c4 c5 c6 c7 c8 c9 b1 I
                      have I := J
                      clear J
                      have c := I.out.one.st
                      obtain ⟨⟨c0, c1, c2, c3, c4, c5⟩, c6, c7, c8, c9, _⟩ := c
                      have ld1 := ld_sta I.out.one
                      have ld2 := ld_caAt c2 c3
                      clear c0 c1 c2 c3
                      go_wp2_with fail
                      have C := Lib.hid (areEffects_any r W10 I.out.st HV.out.2.2)
                      cases k11 : (rightE r.effs && decide (∀ hne : r.effs ≠ [], (r.effs.getLast hne).key < r.nk)) with
                      | false =>
                        have HX := Lib.hid (show res = false by rw [HE.out]; simp only [k1, k2, k3, k4, k5, k6, k7, k8, k9, k10, k11, Bool.true_and, Bool.false_and])
                        rw [k11] at C
                        refine C.out.mono ?_
                        rintro e W11 ⟨rfl, b1⟩
                        have J := Lib.hid (I.out.below b1)
                        clear C ld1 ld2 c4 c5 c6 c7 c8 c9
                        go_wp2_with fail
                        go_ret
                        exact ⟨by rw [HX.out]; try rfl, J.out.low⟩
                      | true =>
                        rw [k11] at C
                        refine C.out.mono ?_
                        rintro e W11 ⟨rfl, b1⟩
                        have J := Lib.hid (I.out.below b1)
                        clear C ld1 ld2 c4 c5 c6 c7 c8 c9 b1 I
                        have I := J
                        clear J
                        have c := I.out.one.st
                        obtain ⟨⟨c0, c1, c2, c3, c4, c5⟩, c6, c7, c8, c9, _⟩ := c
                        have ld1 := ld_sta I.out.one
                        have ld2 := ld_caAt c2 c3
                        clear c0 c1 c2 c3
                        go_wp2_with fail
                        have HT := Lib.hid (tame_of (r := r) (by rw [Bool.and_eq_true] at k8; exact k8.2) k9 HV.out)
                        have HRb := Lib.hid (show ∀ x ∈ r.bats, rightBt x.b = true from fun x hx => batchOk_right (goodB_all _ _ _ _ k9 x.b (List.mem_map_of_mem hx)))
                        have HRe := Lib.hid (show rightE r.effs = true by rw [Bool.and_eq_true] at k11; exact k11.1)
                        have C := Lib.hid (isAsked_any r W11 I.out.st HT.out HRb.out HRe.out _ decide_eq_true_iff)
                        cases k12 : decide ((r.effs.map keyE).Perm (musts (odsOf r.ords) (btsOf r.bats))) with
                        | false =>
                          have HX := Lib.hid (show res = false by rw [HE.out]; simp only [k1, k2, k3, k4, k5, k6, k7, k8, k9, k10, k11, k12, Bool.true_and])
                          rw [k12] at C
                          refine C.out.mono ?_
                          rintro e W12 ⟨rfl, b1⟩
                          have J := Lib.hid (I.out.below b1)
                          clear C ld1 ld2 c4 c5 c6 c7 c8 c9
                          go_wp2_with fail
                          go_ret
                          exact ⟨by rw [HX.out]; try rfl, J.out.low⟩
                        | true =>
                          have HX := Lib.hid (show res = true by rw [HE.out]; simp only [k1, k2, k3, k4, k5, k6, k7, k8, k9, k10, k11, k12, Bool.true_and])
                          rw [k12] at C
                          refine C.out.mono ?_
                          rintro e W12 ⟨rfl, b1⟩
                          have J := Lib.hid (I.out.below b1)
                          clear C ld1 ld2 c4 c5 c6 c7 c8 c9
                          go_wp2_with fail
                          go_ret
                          exact ⟨by rw [HX.out]; try rfl, J.out.low⟩

/-- A state at its beginning is answered. -/
theorem newOk_raw (x y : Cp) (limit : Int) (l : List Int) : newOk x y limit l = ((doorsE l == 0) && (capsB x && (capsB y && limitB limit))) := rfl
set_option maxHeartbeats 8000000 in
theorem new_of : NewC := by
  intro x y limit a cap l w h hm
  have I := Lib.hid (NwI.begin w x y)
  have C1 := Lib.hid (fun W => caps_any x W)
  have C2 := Lib.hid (fun W => caps_any y W)
  have C3 := Lib.hid (fun W => isLimit_any limit W)
  have CD := Lib.hid (doors_any a cap l _ (h.below I.out.low) hm)
  have HE := Lib.hid (newOk_raw x y limit l)
  have HV : Hid (∀ q, newOk x y limit l = q → newV x y limit l = (if q then ⟨x, y, limit, doorsV l, 0, 1, 1, [], [], []⟩ else noSt) ∧ newE x y limit l = if q then 0 else 151) := Lib.hid (fun q hq => by unfold newV newE; rw [hq]; exact ⟨rfl, rfl⟩)
  clear h
  go_enter Tryz.func30, Tryz.ntmps30
  go_wp2_with fail
  generalize ((w.alloc (.cells (cpC x) 31)).alloc (.cells (cpC y) 31)).alloc (.cells (stC noStR) 37) = W0 at *
  have HW : w.heap.size + 2 < W0.heap.size := I.out.res.lt
  refine CD.out.mono ?_
  rintro e w1 ⟨a1, c1, rfl, hI, b1⟩
  have DP := Lib.hid hI
  replace I := Lib.hid (I.out.below b1)
  have l1 := ld_ca I.out.one
  have l2 := ld_ca I.out.two
  have hfew := doorsV_few l
  have I0 := HW
  clear CD b1 hI
  cases k1 : (doorsE l == 0) with
  | false =>
    have k1d : (doorsE l != 0) = true := by simp only [bne, k1]; rfl
    have HX := Lib.hid (HV.out false (by rw [HE.out]; simp only [k1, Bool.false_and]))
    have st := st_sta I.out.res noStR
    go_wp2_with fail
    (try simp only [Exit.inBlock, Exit.then])
    apply bodyPost_ret
    case hd => rfl
    case hr => exact results_cell_one rfl _ _ (w.heap.size + 2) _ rfl (load12 (setRow_heap _ _ _ _ _ _ I.out.res))
    case hR => exact ⟨noStR, by rw [HX.out.2]; rfl, by rw [HX.out.1]; rfl, StP.none _, I.out.done _⟩
  | true =>
    have k1d : (doorsE l != 0) = false := by simp only [bne, k1]; rfl
    go_wp2_with fail
    refine (C1.out _).mono ?_
    rintro e w2 ⟨rfl, b2⟩
    have J := Lib.hid (I.out.below b2)
    have DP2 := Lib.hid (DP.out.below b2)
    clear l1 l2 b2 I DP
    have l2 := ld_ca J.out.two
    have l1 := ld_ca J.out.one
    cases k2 : capsB x with
    | false =>
      have HX := Lib.hid (HV.out false (by rw [HE.out]; simp only [k1, k2, Bool.true_and, Bool.false_and]))
      have st := st_sta J.out.res noStR
      go_wp2_with fail
      (try simp only [Exit.inBlock, Exit.then])
      apply bodyPost_ret
      case hd => rfl
      case hr => exact results_cell_one rfl _ _ (w.heap.size + 2) _ rfl (load12 (setRow_heap _ _ _ _ _ _ J.out.res))
      case hR => exact ⟨noStR, by rw [HX.out.2]; rfl, by rw [HX.out.1]; rfl, StP.none _, J.out.done _⟩
    | true =>
      go_wp2_with fail
      refine (C2.out _).mono ?_
      rintro e w3 ⟨rfl, b3⟩
      have K := Lib.hid (J.out.below b3)
      have DP3 := Lib.hid (DP2.out.below b3)
      clear l1 l2 b3 J DP2
      have l2 := ld_ca K.out.two
      have l1 := ld_ca K.out.one
      cases k3 : capsB y with
      | false =>
        have HX := Lib.hid (HV.out false (by rw [HE.out]; simp only [k1, k2, k3, Bool.true_and, Bool.false_and]))
        have st := st_sta K.out.res noStR
        go_wp2_with fail
        (try simp only [Exit.inBlock, Exit.then])
        apply bodyPost_ret
        case hd => rfl
        case hr => exact results_cell_one rfl _ _ (w.heap.size + 2) _ rfl (load12 (setRow_heap _ _ _ _ _ _ K.out.res))
        case hR => exact ⟨noStR, by rw [HX.out.2]; rfl, by rw [HX.out.1]; rfl, StP.none _, K.out.done _⟩
      | true =>
        go_wp2_with fail
        refine (C3.out _).mono ?_
        rintro e w4 ⟨rfl, rfl⟩
        cases k4 : limitB limit with
        | false =>
          have HX := Lib.hid (HV.out false (by rw [HE.out]; simp only [k1, k2, k3, k4, Bool.true_and]))
          have st := st_sta K.out.res noStR
          go_wp2_with fail
          (try simp only [Exit.inBlock, Exit.then])
          apply bodyPost_ret
          case hd => rfl
          case hr => exact results_cell_one rfl _ _ (w.heap.size + 2) _ rfl (load12 (setRow_heap _ _ _ _ _ _ K.out.res))
          case hR => exact ⟨noStR, by rw [HX.out.2]; rfl, by rw [HX.out.1]; rfl, StP.none _, K.out.done _⟩
        | true =>
          have HX := Lib.hid (HV.out true (by rw [HE.out]; simp only [k1, k2, k3, k4, Bool.true_and]))
          have bd := bd_new x y limit (doorsV l) a1 c1
          have st := st_sta K.out.res (newR x y limit (doorsV l) a1 c1)
          go_wp2_with fail
          (try simp only [Exit.inBlock, Exit.then])
          apply bodyPost_ret
          case hd => rfl
          case hr => exact results_cell_one rfl _ _ (w.heap.size + 2) _ rfl (load12 (setRow_heap _ _ _ _ _ _ K.out.res))
          case hR =>
            refine ⟨newR x y limit (doorsV l) a1 c1, by rw [HX.out.2]; rfl, by rw [HX.out.1]; rfl, ?_, K.out.done _⟩
            exact ⟨(DP3.out.setRow (by have := I0; omega) _).at, by unfold maxLen; show (doorsV l).length ≤ _; omega, OrsP.nil _ _ _, BasP.nil _ _ _, EfsP.nil _ _ _⟩
end

/- StOwn: What package state's own and ownBatch and package order's Copy answer: lists of the call's own. -/
section
set_option maxRecDepth 100000
open Go.RowKit Go.ChangeShapes Go.WideShapes Go.ChangeAt
attribute [local go_sem ↓] ldOr stOr alOr bxOr bdOr ldBa stBa alBa bxBa bdBa ldSt stSt alSt bxSt bdSt ldEf stEf alEf bxEf eqEf bdEf bsEf ldGr bxGr eqGr ldCa bxCa eqCa
attribute [local go_sem] al_or bx_or st_ornew bd_or al_ba bx_ba st_banew bd_ba al_sta bx_sta st_stnew bd_sta al_ef bx_ef st_new bd_ef bs_ef bs_ef0 bx_gr ne_gr bx_ca ne_ca eq_caX eq_grX

end
end Go.Proofs.YtfmpibmhhfmajaaGreatDoor
