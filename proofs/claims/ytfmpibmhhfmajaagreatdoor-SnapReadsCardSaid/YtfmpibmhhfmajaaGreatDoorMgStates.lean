/- States: held against each other, coming in, made; what follows of their rules. -/
import Derived.Test.YtfmpibmhhfmajaaGreatDoorMgState
import Derived.Test.YtfmpibmhhfmajaaGreatDoorMgOrders
import Derived.Test.YtfmpibmhhfmajaaGreatDoorMgEffects
import Derived.Test.YtfmpibmhhfmajaaGreatDoorPDy
import Derived.Test.YtfmpibmhhfmajaaGreatDoorMgBatches
import Derived.Test.YtfmpibmhhfmajaaGreatDoorRows
import Derived.OpenShut
import Derived.ChangeSlices
namespace Go.Proofs.YtfmpibmhhfmajaaGreatDoor
/- StSame: What the document's Same of layer 15 answers: two states held against each other. -/
section
set_option maxRecDepth 100000
open Go.RowKit Go.ChangeShapes Go.WideShapes Go.ChangeAt
attribute [local go_sem ↓] ldOr stOr alOr bxOr bdOr ldBa stBa alBa bxBa bdBa ldSt stSt alSt bxSt bdSt ldEf stEf alEf bxEf eqEf bdEf bsEf ldGr bxGr eqGr ldCa bxCa eqCa
attribute [local go_sem] al_or bx_or st_ornew bd_or al_ba bx_ba st_banew bd_ba al_sta bx_sta st_stnew bd_sta al_ef bx_ef st_new bd_ef bs_ef bs_ef0 bx_gr ne_gr bx_ca ne_ca eq_caX

/-- Lists held against each other, one by one. -/
def sameBy {α : Type} (q : α → α → Bool) : List α → List α → Bool
  | [], [] => true
  | x :: a, y :: b => q x y && sameBy q a b
  | _, _ => false
theorem sameBy_iff {α : Type} {q : α → α → Bool} (hq : ∀ x y, q x y = true ↔ x = y) : ∀ (a b : List α), sameBy q a b = true ↔ a = b
  | [], [] => by simp [sameBy]
  | [], _ :: _ => by simp [sameBy]
  | _ :: _, [] => by simp [sameBy]
  | x :: a, y :: b => by
    simp only [sameBy, Bool.and_eq_true, hq, sameBy_iff hq a b, List.cons.injEq]
theorem sameBy_len {α : Type} {q : α → α → Bool} : ∀ {a b : List α}, a.length ≠ b.length → sameBy q a b = false
  | [], [], h => absurd rfl h
  | [], _ :: _, _ => rfl
  | _ :: _, [], _ => rfl
  | x :: a, y :: b, h => by
    simp only [List.length_cons] at h
    rw [sameBy, sameBy_len (by omega), Bool.and_false]
theorem sameBy_step {α : Type} {q : α → α → Bool} {a b : List α} {k : Nat} (h1 : k < a.length) (h2 : k < b.length) : sameBy q (a.drop k) (b.drop k) = (q a[k] b[k] && sameBy q (a.drop (k + 1)) (b.drop (k + 1))) := by
  rw [List.drop_eq_getElem_cons h1, List.drop_eq_getElem_cons h2, sameBy]
def sameI : List Int → List Int → Bool := sameBy fun x y => x == y
def sameOs : List OdR → List OdR → Bool := sameBy fun x y => sameO x.o y.o
def sameBs : List BtR → List BtR → Bool := sameBy fun x y => sameBt x.b y.b
theorem sameBy_map {α β : Type} (f : α → β) (q : β → β → Bool) : ∀ (a b : List α), sameBy (fun x y => q (f x) (f y)) a b = sameBy q (a.map f) (b.map f)
  | [], [] => rfl
  | [], _ :: _ => rfl
  | _ :: _, [] => rfl
  | x :: a, y :: b => by
    simp only [sameBy, List.map_cons, sameBy_map f q a b]
theorem sameI_iff (a b : List Int) : sameI a b = true ↔ a = b := sameBy_iff (fun x y => by simp) a b
theorem sameOs_iff (a b : List OdR) : sameOs a b = true ↔ odsOf a = odsOf b := by
  show sameBy (fun x y : OdR => sameO x.o y.o) a b = true ↔ _
  rw [sameBy_map (fun x : OdR => x.o) sameO, sameBy_iff sameO_iff]
  rfl
theorem sameBs_iff (a b : List BtR) : sameBs a b = true ↔ btsOf a = btsOf b := by
  show sameBy (fun x y : BtR => sameBt x.b y.b) a b = true ↔ _
  rw [sameBy_map (fun x : BtR => x.b) sameBt, sameBy_iff sameBt_iff]
  rfl
def sameS (a b : StR) : Bool :=
  capsEq a.waves b.waves && (capsEq a.mans b.mans && ((a.limit == b.limit) && (sameI a.doors b.doors && ((a.now == b.now) && ((a.nb == b.nb) && ((a.nk == b.nk) && (sameE a.effs b.effs && (sameOs a.ords b.ords && sameBs a.bats b.bats))))))))
theorem sameS_iff (a b : StR) : sameS a b = true ↔ a.st = b.st := by
  unfold sameS StR.st
  simp only [Bool.and_eq_true, capsEq_iff, beq_iff_eq, sameI_iff, sameE_iff, sameOs_iff, sameBs_iff, St.mk.injEq]
  constructor
  · rintro ⟨h1, h2, h3, h4, h5, h6, h7, h8, h9, h10⟩
    exact ⟨h1, h2, h3, h4, h5, h6, h7, h9, h10, h8⟩
  · rintro ⟨h1, h2, h3, h4, h5, h6, h7, h9, h10, h8⟩
    exact ⟨h1, h2, h3, h4, h5, h6, h7, h8, h9, h10⟩

theorem IntsP.at {w : World} {a : Option Addr} {cap : Nat} {l : List Int} (h : IntsP w a cap l) (k : Nat) (hk : k < l.length) : ∃ b o, a = some ⟨b, o, none⟩ ∧ b < w.heap.size ∧ w.cell? ⟨b, o + k, none⟩ = some (.int .i64 l[k]) := by
  obtain ⟨b, o, e, hb, hc⟩ := h.cell (by intro e; subst e; simp at hk)
  exact ⟨b, o, e, hb, hc k _ (List.getElem?_eq_getElem hk)⟩

/-- Two states that came in, each in a variable. -/
structure TwI (w : World) (r s : StR) (W : World) : Prop where
  one : Row W w.heap.size 37 (stC r)
  two : Row W (w.heap.size + 1) 37 (stC s)
  st : StP W r
  su : StP W s
  low : Below w.heap.size w W
theorem TwI.below {w W W' : World} {r s : StR} (h : TwI w r s W) (b : Below W.heap.size W W') : TwI w r s W' := ⟨h.one.below b, h.two.below b, h.st.below b, h.su.below b, h.low.trans (b.mono h.low.size)⟩
theorem TwI.begin (w : World) (r s : StR) (h : StP w r) (hs : StP w s) : TwI w r s ((w.alloc (.cells (stC r) 37)).alloc (.cells (stC s) 37)) := by
  have F := FoI.begin w r h 37 (stC s)
  exact ⟨F.box, F.res, F.st, hs.below F.low, F.low⟩

end

/- StNew: What the document's New of layer 15 answers. -/
section
set_option maxRecDepth 100000
open Go.RowKit Go.ChangeShapes Go.WideShapes Go.ChangeAt
attribute [local go_sem ↓] ldOr stOr alOr bxOr bdOr ldBa stBa alBa bxBa bdBa ldSt stSt alSt bxSt bdSt ldEf stEf alEf bxEf eqEf bdEf bsEf ldGr bxGr eqGr ldCa bxCa eqCa
attribute [local go_sem] al_or bx_or st_ornew bd_or al_ba bx_ba st_banew bd_ba al_sta bx_sta st_stnew bd_sta al_ef bx_ef st_new bd_ef bs_ef bs_ef0 bx_gr ne_gr bx_ca ne_ca

/-- A state at its beginning, its doors somewhere. -/
def newR (wv mn : Cp) (limit : Int) (l : List Int) (a : Option Addr) (c : Nat) : StR := ⟨wv, mn, limit, l, a, c, 0, 1, 1, [], none, 0, [], none, 0, [], none, 0⟩
theorem bd_new (wv mn : Cp) (limit : Int) (l : List Int) (a : Option Addr) (c : Nat) (w : World) : BdX 37 #[(0, cpV wv), (1, cpV mn), (2, .int .i64 limit), (3, .slice a l.length c), (5, .int .i64 1), (6, .int .i64 1)] w = .ok (.value (stV (newR wv mn limit l a c))) w := by kernel_rfl
theorem doorsV_few (l : List Int) : (doorsV l).length ≤ 96 := by
  cases h : l.all doorB with
  | false => rw [doorsV_bad h]; simp
  | true => rw [doorsV_good h]; exact ticksOf_len l 96
/-- A state and an error's number are answered. -/
def NewOut (s : St) (n : Int) (w : World) (e : Ending) (w' : World) : Prop := ∃ r : StR, e = .returned (.tuple #[stV r, .int .i64 n]) ∧ r.st = s ∧ StP w' r ∧ Below w.heap.size w w'

theorem ld_ca {W : World} {g : Nat} {c : Cp} (h : Row W g 31 (cpC c)) : LdX 31 (.pointer (some ⟨g, 0, none⟩)) W = .ok (.value (cpV c)) W := ld_caAt (h.cell 0) (h.cell 1)
/-- Two caps that came in, each in a variable, and the result's variable behind them. -/
structure NwI (w : World) (x y : Cp) (W : World) : Prop where
  one : Row W w.heap.size 31 (cpC x)
  two : Row W (w.heap.size + 1) 31 (cpC y)
  res : Row W (w.heap.size + 2) 37 (stC noStR)
  low : Below w.heap.size w W
theorem NwI.below {w W W' : World} {x y : Cp} (h : NwI w x y W) (b : Below W.heap.size W W') : NwI w x y W' := ⟨h.one.below b, h.two.below b, h.res.below b, h.low.trans (b.mono h.low.size)⟩
theorem NwI.begin (w : World) (x y : Cp) : NwI w x y (((w.alloc (.cells (cpC x) 31)).alloc (.cells (cpC y) 31)).alloc (.cells (stC noStR) 37)) := by
  have h1 : (w.alloc (.cells (cpC x) 31)).heap.size = w.heap.size + 1 := by simp
  have h2 : ((w.alloc (.cells (cpC x) 31)).alloc (.cells (cpC y) 31)).heap.size = w.heap.size + 2 := by simp
  refine ⟨((Row.new w _ _).more _).more _, ?_, ?_, (((Below.refl _ _).alloc (Nat.le_refl _) _).alloc (by simp) _).alloc (by simp; omega) _⟩
  · have := (Row.new (w.alloc (.cells (cpC x) 31)) (cpC y) 31).more (.cells (stC noStR) 37)
    rwa [h1] at this
  · have := Row.new ((w.alloc (.cells (cpC x) 31)).alloc (.cells (cpC y) 31)) (stC noStR) 37
    rwa [h2] at this
theorem NwI.done {w W : World} {x y : Cp} (h : NwI w x y W) (z : Array Value) : Below w.heap.size w (W.setRow (w.heap.size + 2) z) := Below.row h.low (by omega) _

end

/- StArgs: What came in as a state, as two caps, as numbers. -/
section
set_option maxRecDepth 100000
open Go.ChangeShapes Go.WideShapes Go.ChangeAt Go.RowKit

end

/- StGreat: The laws' bound on states. -/
section
set_option maxRecDepth 100000
open Go.RowKit Go.ChangeShapes Go.WideShapes Go.ChangeAt
attribute [local go_sem ↓] ldOr stOr alOr bxOr bdOr ldBa stBa alBa bxBa bdBa ldSt stSt alSt bxSt bdSt ldEf stEf alEf bxEf eqEf bdEf bsEf ldGr bxGr eqGr
attribute [local go_sem] al_or bx_or st_ornew bd_or al_ba bx_ba st_banew bd_ba al_sta bx_sta st_stnew bd_sta al_ef bx_ef st_new bd_ef bs_ef bs_ef0 bx_gr ne_gr

/-- What is not too great. -/
structure Small (r : StR) : Prop where
  ords : r.ords.length ≤ 60
  bats : r.bats.length ≤ 40
  effs : r.effs.length ≤ 100
  doors : r.doors.length ≤ 100
  ls : ∀ x ∈ r.ords, x.o.ls.length ≤ 20
  mem : ∀ x ∈ r.bats, x.b.mem.length ≤ 80
end

/- StHung: Plain facts on a state that hangs together: who is found, what is held. -/
section
set_option maxRecDepth 100000

theorem goodO_pair : ∀ (l : List Od) (p : Option ByteArray), goodO p l = true → l.Pairwise (fun x y => kcmp x.id y.id < 0) ∧ ∀ q, p = some q → ∀ x ∈ l, kcmp q x.id < 0
  | [], _, _ => ⟨List.Pairwise.nil, fun _ _ x hx => by simp at hx⟩
  | o :: r, p, h => by
    simp only [goodO, Bool.and_eq_true] at h
    obtain ⟨_, h2, h3⟩ := h
    obtain ⟨i1, i2⟩ := goodO_pair r _ h3
    refine ⟨List.pairwise_cons.2 ⟨fun y hy => i2 o.id rfl y hy, i1⟩, fun q hq x hx => ?_⟩
    subst hq
    have h2' : kcmp q o.id < 0 := by simpa [aheadO] using h2
    rcases List.mem_cons.1 hx with rfl | hx
    · exact h2'
    · exact kcmp_trans h2' (i2 o.id rfl x hx)
theorem goodB_pair (os : List Od) (nb : Int) : ∀ (l : List Bt) (p : Option Int), goodB os nb p l = true → l.Pairwise (fun x y => x.id < y.id) ∧ ∀ q, p = some q → ∀ x ∈ l, q < x.id
  | [], _, _ => ⟨List.Pairwise.nil, fun _ _ x hx => by simp at hx⟩
  | b :: r, p, h => by
    simp only [goodB, Bool.and_eq_true] at h
    obtain ⟨_, h2, h3⟩ := h
    obtain ⟨i1, i2⟩ := goodB_pair os nb r _ h3
    refine ⟨List.pairwise_cons.2 ⟨fun y hy => i2 b.id rfl y hy, i1⟩, fun q hq x hx => ?_⟩
    subst hq
    have h2' : q < b.id := by simpa [aheadB] using h2
    rcases List.mem_cons.1 hx with rfl | hx
    · exact h2'
    · exact Int.lt_trans h2' (i2 b.id rfl x hx)
end

/- StCon: What package state's calls answer, as the laws want it. -/
section
set_option maxRecDepth 100000
open Go.RowKit Go.ChangeShapes Go.WideShapes Go.ChangeAt

/-- What package state's New answers. -/
def NewC : Prop := ∀ (x y : Cp) (limit : Int) (a : Option Addr) (cap : Nat) (l : List Int) (w : World), IntsP w a cap l → l.length ≤ maxLen → Calls Tryz.prog 30 #[cpV x, cpV y, .int .i64 limit, .slice a l.length cap] w (NewOut (newV x y limit l) (newE x y limit l) w)
/-- What package state's Right answers. -/
def RightC : Prop := ∀ (r : StR) (w : World), StP w r → FewS r → Calls Tryz.prog 25 #[stV r] w (Tell (rightS r.st) w)
theorem Small.few {r : StR} (h : Small r) : FewS r := ⟨Nat.le_trans h.ords (by decide), Nat.le_trans h.bats (by decide), Nat.le_trans h.effs (by decide)⟩
end

/- StAlive: The chapter's example. -/
section
set_option maxRecDepth 100000
open Go.RowKit Go.ChangeShapes Go.WideShapes Go.ChangeAt
attribute [local go_sem ↓] ldOr stOr alOr bxOr bdOr ldBa stBa alBa bxBa bdBa ldSt stSt alSt bxSt bdSt ldEf stEf alEf bxEf eqEf bdEf bsEf ldGr bxGr eqGr ldCa bxCa eqCa
attribute [local go_sem] al_or bx_or st_ornew bd_or al_ba bx_ba st_banew bd_ba al_sta bx_sta st_stnew bd_sta al_ef bx_ef st_new bd_ef bs_ef bs_ef0 bx_gr ne_gr bx_ca ne_ca eq_caX

def lnA : Ln := ⟨⟨#[120]⟩, 1, 0⟩
def odA : Od := ⟨⟨#[97]⟩, [lnA], ⟨#[99]⟩, ⟨#[122]⟩, ⟨#[115]⟩, 0, 1, false, 0, 0⟩
def efA : Ef := ⟨1, 0, 0, 1, 0, ⟨#[97]⟩⟩
theorem bd_odA (b : Nat) (w : World) : BdX 93 #[(0, .string ⟨#[97]⟩), (1, .slice (some ⟨b, 0, none⟩) 1 1), (2, .agg #[.string ⟨#[99]⟩, .string ⟨#[122]⟩, .string ⟨#[115]⟩]), (4, .agg #[.int .i64 1, .bool false, .int .i64 0])] w = .ok (.value (orV ⟨odA, some ⟨b, 0, none⟩, 1⟩)) w := by kernel_rfl
theorem bs_odA (r : OdR) (w : World) : BsX 33 1 #[(0, orV r)] w = .ok (.value (.slice (some ⟨w.heap.size, 0, none⟩) 1 1)) (w.alloc (.cells (orC r) 93)) := by kernel_rfl
theorem bd_efA (w : World) : BdX 138 #[(0, .int .i64 1), (3, .int .i64 1), (5, .string ⟨#[97]⟩)] w = .ok (.value (efV efA)) w := by kernel_rfl
section
variable (ev : Operand → Value) (d : Option Tmp) (ty : TypeId) (pos : String) (af : Array Edge) (gd : Option (Nat × Bool)) (w : World)
theorem bsOr (n : Nat) (ps : Array (Nat × Operand)) : (execOp ev ⟨d, .buildSlice 33 n ps, ty, pos, af, gd⟩).run Tryz.prog w = BsX 33 n (ps.map fun (i, x) => (i, ev x)) w := rfl
end
attribute [local go_sem ↓] bsOr
attribute [local go_sem] bd_odA bs_odA bd_efA

end

/- StMust: Plain facts on effects: what must be asked is just what is asked. -/
section
set_option maxRecDepth 100000

/-- What is asked: a kind, an order, a batch. -/
abbrev Key : Type := Int × (List UInt8 × Int)
def keyE (e : Ef) : Key := (e.kind, e.order.toList, e.batch)
def keyO (o : Od) : Key := (asksN o.phase, o.id.toList, 0)
def keyB (b : Bt) : Key := (2 + b.kind, noT.toList, b.id)
/-- What must be asked. -/
def musts (os : List Od) (bs : List Bt) : List Key := (os.filter asksB).map keyO ++ (bs.filter outB).map keyB
theorem askN_key (l : List Ef) (kind : Int) (id : ByteArray) (batch : Int) : askN l kind id batch = (l.map keyE).count (kind, id.toList, batch) := by
  unfold askN List.count
  rw [List.countP_map]
  rfl
theorem musts_len (os : List Od) (bs : List Bt) : (musts os bs).length = manyN os bs := by
  simp [musts, manyN, List.countP_eq_length_filter]
theorem toList_inj {a b : ByteArray} (h : a.toList = b.toList) : a = b := (toList_iff a b).1 (by rw [h]; simp)
theorem right_id {o : Od} (h : rightO o = true) : o.id ≠ noT := by
  intro e
  simp only [rightO, Bool.and_eq_true] at h
  have := h.1.1.1.1.1.1
  rw [e] at this
  exact absurd this (by decide +kernel)
theorem musts_nodup {os : List Od} {bs : List Bt} (ho : os.Pairwise (fun x y => kcmp x.id y.id < 0)) (hb : bs.Pairwise (fun x y => x.id < y.id)) (hr : ∀ o ∈ os, rightO o = true) : (musts os bs).Nodup := by
  unfold musts
  rw [List.nodup_append]
  refine ⟨?_, ?_, ?_⟩
  · rw [List.nodup_iff_pairwise_ne, List.pairwise_map]
    refine (ho.filter asksB).imp (fun {x y} hxy e => ?_)
    simp only [keyO, Prod.mk.injEq] at e
    have := toList_inj e.2.1
    rw [this, kcmp_self] at hxy
    omega
  · rw [List.nodup_iff_pairwise_ne, List.pairwise_map]
    refine (hb.filter outB).imp (fun {x y} hxy e => ?_)
    simp only [keyB, Prod.mk.injEq] at e
    omega
  · intro a ha b hb2 e
    obtain ⟨o, ho2, rfl⟩ := List.mem_map.1 ha
    obtain ⟨x, hx, rfl⟩ := List.mem_map.1 hb2
    simp only [keyO, keyB, Prod.mk.injEq] at e
    exact right_id (hr o (List.mem_filter.1 ho2).1) (toList_inj e.2.1)
theorem count_one {α : Type} [BEq α] [LawfulBEq α] {m : α} : ∀ {M : List α}, M.Nodup → m ∈ M → M.count m = 1
  | [], _, h => by simp at h
  | x :: r, hn, h => by
    rw [List.nodup_cons] at hn
    by_cases e : m = x
    · subst e
      rw [List.count_cons_self, List.count_eq_zero_of_not_mem hn.1]
    · rcases List.mem_cons.1 h with h | h
      · exact absurd h e
      · rw [List.count_cons_of_ne (fun e2 => e e2.symm)]
        exact count_one hn.2 h
/-- So many, each once: just those. -/
theorem perm_of_counts {α : Type} [BEq α] [LawfulBEq α] : ∀ (M K : List α), M.Nodup → (∀ m ∈ M, K.count m = 1) → K.length = M.length → K.Perm M
  | [], K, _, _, hl => by
    have : K = [] := List.eq_nil_of_length_eq_zero (by simpa using hl)
    rw [this]
  | m :: M, K, hn, hc, hl => by
    rw [List.nodup_cons] at hn
    have hm : m ∈ K := by
      have := hc m (by simp)
      exact List.count_pos_iff.1 (by omega)
    have hp := List.perm_cons_erase hm
    refine hp.trans (List.Perm.cons m (perm_of_counts M (K.erase m) hn.2 (fun x hx => ?_) ?_))
    · have hne : x ≠ m := fun e => hn.1 (e ▸ hx)
      rw [List.count_erase_of_ne hne]
      exact hc x (by simp [hx])
    · rw [List.length_erase_of_mem hm, hl]
      simp
theorem effsOk_iff {os : List Od} {bs : List Bt} (l : List Ef) (nk : Int) (hn : (musts os bs).Nodup) :
    effsOk os bs l nk = true ↔ (l.map keyE).Perm (musts os bs) ∧ (∀ e ∈ l, e.key < nk) ∧ rightE l = true := by
  unfold effsOk
  simp only [Bool.and_eq_true, List.all_eq_true, decide_eq_true_eq]
  constructor
  · rintro ⟨h1, h2, h3, h4, h5⟩
    refine ⟨perm_of_counts _ _ hn (fun m hm => ?_) (by rw [List.length_map, musts_len, h4]), h3, h5⟩
    unfold musts at hm
    rcases List.mem_append.1 hm with hm | hm
    · obtain ⟨o, ho, rfl⟩ := List.mem_map.1 hm
      obtain ⟨ho, ha⟩ := List.mem_filter.1 ho
      have := h1 o ho
      unfold needO at this
      have hz : (asksN o.phase == 0) = false := by simpa [asksB, bne] using ha
      rw [hz, Bool.false_or, beq_iff_eq, askN_key] at this
      exact this
    · obtain ⟨b, hb, rfl⟩ := List.mem_map.1 hm
      obtain ⟨hb, ha⟩ := List.mem_filter.1 hb
      have := h2 b hb
      unfold needB at this
      have hz : (b.phase != 2) = false := by simpa [outB, bne] using ha
      rw [hz, Bool.false_or, beq_iff_eq, askN_key] at this
      exact this
  · rintro ⟨hp, h3, h5⟩
    have hcnt : ∀ m ∈ musts os bs, (l.map keyE).count m = 1 := fun m hm => by rw [hp.count_eq, count_one hn hm]
    refine ⟨fun o ho => ?_, fun b hb => ?_, h3, ?_, h5⟩
    · unfold needO
      cases hz : (asksN o.phase == 0) with
      | true => rfl
      | false =>
        rw [Bool.false_or, beq_iff_eq, askN_key]
        exact hcnt (keyO o) (List.mem_append_left _ (List.mem_map_of_mem (List.mem_filter.2 ⟨ho, by simp only [asksB, bne, hz]; rfl⟩)))
    · unfold needB
      cases hz : (b.phase != 2) with
      | true => rfl
      | false =>
        rw [Bool.false_or, beq_iff_eq, askN_key]
        exact hcnt (keyB b) (List.mem_append_right _ (List.mem_map_of_mem (List.mem_filter.2 ⟨hb, by simpa [outB, bne] using hz⟩)))
    · have := hp.length_eq
      rw [List.length_map, musts_len] at this
      exact this.symm
end

/- StCount: Plain facts on counting what is needed against what is asked. -/
section
set_option maxRecDepth 100000

/-- How many more are needed of a kind than have been asked for. -/
def cntF (M K : List Key) (x : Key) : Int := (M.count x : Int) - (K.count x : Int)
theorem cntF_snoc (M K : List Key) (y x : Key) : cntF M (K ++ [y]) x = if y = x then cntF M K x - 1 else cntF M K x := by
  unfold cntF
  rw [List.count_append, List.count_singleton]
  by_cases h : y = x
  · subst h
    simp
    omega
  · have : (y == x) = false := by simpa using h
    rw [this, if_neg h]
    simp
theorem cnt_snoc (M : List Key) (y x : Key) : ((M ++ [y]).count x : Int) = if y = x then (M.count x : Int) + 1 else (M.count x : Int) := by
  rw [List.count_append, List.count_singleton]
  by_cases h : y = x
  · subst h
    simp
  · have : (y == x) = false := by simpa using h
    rw [this, if_neg h]
    simp
theorem cnt_le (M : List Key) (x : Key) : M.count x ≤ M.length := List.count_le_length
theorem perm_of_cnt {M K : List Key} (h1 : ∀ x, 0 ≤ cntF M K x) (h2 : ∀ x, cntF M K x ≤ 0) : K.Perm M := by
  refine List.perm_iff_count.2 fun x => ?_
  have a := h1 x
  have b := h2 x
  unfold cntF at a b
  omega
theorem not_perm_short {M K : List Key} {x : Key} (h : 0 < cntF M K x) : ¬ K.Perm M := by
  intro hp
  have := List.perm_iff_count.1 hp x
  unfold cntF at h
  omega
theorem not_perm_zero {M A B : List Key} {y : Key} (h : cntF M A y = 0) : ¬ (A ++ y :: B).Perm M := by
  intro hp
  have := List.perm_iff_count.1 hp y
  rw [List.count_append, List.count_cons_self] at this
  unfold cntF at h
  omega
/-- What is needed by the first so many. -/
def mustsK (os : List Od) (bs : List Bt) (j k : Nat) : List Key := musts (os.take j) (bs.take k)
theorem mustsK_all (os : List Od) (bs : List Bt) : mustsK os bs os.length bs.length = musts os bs := by simp [mustsK]
theorem mustsK_o {os : List Od} (bs : List Bt) {j : Nat} (h : j < os.length) : mustsK os bs (j + 1) 0 = if asksB os[j] then mustsK os bs j 0 ++ [keyO os[j]] else mustsK os bs j 0 := by
  unfold mustsK musts
  rw [List.take_succ_eq_append_getElem h, List.filter_append, List.map_append]
  cases hq : asksB os[j] with
  | true => simp [hq]
  | false => simp [hq]
theorem mustsK_b (os : List Od) {bs : List Bt} (j : Nat) {k : Nat} (h : k < bs.length) : mustsK os bs j (k + 1) = if outB bs[k] then mustsK os bs j k ++ [keyB bs[k]] else mustsK os bs j k := by
  unfold mustsK musts
  rw [List.take_succ_eq_append_getElem h, List.filter_append, List.map_append]
  cases hq : outB bs[k] with
  | true => simp [hq]
  | false => simp [hq]
theorem mustsK_len (os : List Od) (bs : List Bt) (j k : Nat) : (mustsK os bs j k).length ≤ os.length + bs.length := by
  unfold mustsK musts
  rw [List.length_append, List.length_map, List.length_map]
  have h1 := List.length_filter_le asksB (os.take j)
  have h2 := List.length_filter_le outB (bs.take k)
  rw [List.length_take] at h1 h2
  omega

/-- The last key is the greatest. -/
theorem rightE_last {l : List Ef} (h : rightE l = true) (nk : Int) : (∀ e ∈ l, e.key < nk) ↔ ∀ (hne : l ≠ []), (l.getLast hne).key < nk := by
  obtain ⟨_, hp⟩ := (rightE_iff l).1 h
  constructor
  · exact fun h hne => h _ (List.getLast_mem hne)
  · intro hl e he
    have hne : l ≠ [] := by intro e2; subst e2; simp at he
    have h2 := hl hne
    obtain ⟨i, hi, rfl⟩ := List.getElem_of_mem he
    have hlast : l.getLast hne = l[l.length - 1]'(by have := List.length_pos_iff.2 hne; omega) := List.getLast_eq_getElem hne
    rw [hlast] at h2
    by_cases hi2 : i = l.length - 1
    · subst hi2
      exact h2
    · have := List.pairwise_iff_getElem.1 hp i (l.length - 1) (by simpa using hi) (by simp; omega) (by omega)
      simp only [List.getElem_map] at this
      omega
end

/- StBreak: Plain facts: a state that hangs together doesn't any more without one of its effects, or with an order in the next phase. -/
section
set_option maxRecDepth 100000

end

/- StHeld: Rows of numbers of 64 bits of the call's own; what the document's Held of layer 15 answers. -/
section
set_option maxRecDepth 100000
open Go.RowKit Go.ChangeShapes Go.WideShapes Go.ChangeAt
attribute [local go_sem ↓] ldOr stOr alOr bxOr bdOr ldBa stBa alBa bxBa bdBa ldSt stSt alSt bxSt bdSt ldEf stEf alEf bxEf eqEf bdEf bsEf ldGr bxGr eqGr ldCa bxCa eqCa
attribute [local go_sem] al_or bx_or st_ornew bd_or al_ba bx_ba st_banew bd_ba al_sta bx_sta st_stnew bd_sta al_ef bx_ef st_new bd_ef bs_ef bs_ef0 bx_gr ne_gr bx_ca ne_ca eq_grX

theorem FoI.keep {w W W' : World} {r : StR} {T : TypeId} {cs : Array Value} (h : FoI w r T cs W) (hs : StP w r) (b : Below (w.heap.size + 1 + 1) W W') : FoI w r T cs W' := by
  have hl : Below w.heap.size w W' := h.low.trans (b.mono (by omega))
  exact ⟨(b.block _ (by omega)).trans h.box, (b.block _ (by omega)).trans h.res, hs.below hl, hl⟩
end
end Go.Proofs.YtfmpibmhhfmajaaGreatDoor
