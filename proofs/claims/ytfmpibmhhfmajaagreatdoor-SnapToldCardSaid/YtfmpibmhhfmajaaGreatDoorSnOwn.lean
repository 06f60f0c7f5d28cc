/- A state whose lists are a call's own, and each of another kind: what grows leaves the others as they were. -/
import Derived.Test.YtfmpibmhhfmajaaGreatDoorSnCon
namespace Go.Proofs.YtfmpibmhhfmajaaGreatDoor
set_option maxRecDepth 100000
open Go.RowKit Go.ChangeShapes Go.WideShapes Go.ChangeAt

theorem row_kind {W W' : World} {base base' n n' len len' : Nat} {e e' : TypeId} {v u : Value} {cs cs' : List Value} (h : W.ownsRow base e n v len cs) (hu : W.ownsRow base' e' n' u len' cs') (hne : e ≠ e') (g : W.grownBy W' u.ownBlock) : W'.ownsRow base e n v len cs := by
  refine ⟨h.1, ?_⟩
  rcases h.2 with h1 | ⟨b, cap, cur, hv, h1, h2, h3⟩
  · exact .inl h1
  · refine .inr ⟨b, cap, cur, hv, h1, ?_, h3⟩
    rw [g.block b (Array.getElem?_eq_some_iff.1 h2).1 ?_]
    · exact h2
    · intro hb
      rcases hu.2 with ⟨hu1, _⟩ | ⟨b', cap', cur', hv', k1, k2, _⟩
      · rw [hu1] at hb
        cases hb
      · rw [hv'] at hb
        injection hb with hb
        subst hb
        rw [h2] at k2
        injection k2 with k2
        injection k2 with _ k2 _
        exact hne k2
/-- All lists of a state are a call's own. -/
structure OwnSt (W : World) (B : Nat) (o : StR) : Prop where
  doors : OwnI W B (.slice o.da o.doors.length o.dc) o.doors
  ords : OwnS LO W B (.slice o.oa o.ords.length o.oc) o.ords
  lns : ∀ y ∈ o.ords, OwnL W B (.slice y.a y.o.ls.length y.c) y.o.ls
  bats : OwnS LB W B (.slice o.ba o.bats.length o.bc) o.bats
  mems : ∀ y ∈ o.bats, OwnT W B (.slice y.a y.b.mem.length y.c) y.b.mem
  effs : OwnS LE W B (.slice o.ea o.effs.length o.ec) o.effs
theorem OwnSt.keep {W W' : World} {B : Nat} {o : StR} (h : OwnSt W B o) (hb : ∀ k, B ≤ k → k < W.heap.size → W'.heap[k]? = W.heap[k]?) : OwnSt W' B o :=
  ⟨row_else h.doors fun x hx => hb _ (rowS_at h.doors x hx).1 (rowS_at h.doors x hx).2, row_else h.ords fun x hx => hb _ (rowS_at h.ords x hx).1 (rowS_at h.ords x hx).2,
    fun y hy => row_else (h.lns y hy) fun x hx => hb _ (rowS_at (h.lns y hy) x hx).1 (rowS_at (h.lns y hy) x hx).2,
    row_else h.bats fun x hx => hb _ (rowS_at h.bats x hx).1 (rowS_at h.bats x hx).2,
    fun y hy => row_else (h.mems y hy) fun x hx => hb _ (rowS_at (h.mems y hy) x hx).1 (rowS_at (h.mems y hy) x hx).2,
    row_else h.effs fun x hx => hb _ (rowS_at h.effs x hx).1 (rowS_at h.effs x hx).2⟩
theorem OwnSt.none (W : World) (B : Nat) : OwnSt W B noStR := ⟨World.ownsRow_nil _ _ _ _, World.ownsRow_nil _ _ _ _, (fun _ h => by cases h), World.ownsRow_nil _ _ _ _, (fun _ h => by cases h), World.ownsRow_nil _ _ _ _⟩
def stDoors (o : StR) (l : List Int) (a : Option Addr) (c : Nat) : StR := ⟨o.waves, o.mans, o.limit, l, a, c, o.now, o.nb, o.nk, o.ords, o.oa, o.oc, o.bats, o.ba, o.bc, o.effs, o.ea, o.ec⟩
def stOrds (o : StR) (l : List OdR) (a : Option Addr) (c : Nat) : StR := ⟨o.waves, o.mans, o.limit, o.doors, o.da, o.dc, o.now, o.nb, o.nk, l, a, c, o.bats, o.ba, o.bc, o.effs, o.ea, o.ec⟩
def stBats (o : StR) (l : List BtR) (a : Option Addr) (c : Nat) : StR := ⟨o.waves, o.mans, o.limit, o.doors, o.da, o.dc, o.now, o.nb, o.nk, o.ords, o.oa, o.oc, l, a, c, o.effs, o.ea, o.ec⟩
def stEffs (o : StR) (l : List Ef) (a : Option Addr) (c : Nat) : StR := ⟨o.waves, o.mans, o.limit, o.doors, o.da, o.dc, o.now, o.nb, o.nk, o.ords, o.oa, o.oc, o.bats, o.ba, o.bc, l, a, c⟩
theorem OwnSt.order {W W' : World} {B : Nat} {o : StR} {y : OdR} {a : Option Addr} {c : Nat} (h : OwnSt W B o) (hy : OwnL W B (.slice y.a y.o.ls.length y.c) y.o.ls) (hn : OwnS LO W' B (.slice a (o.ords ++ [y]).length c) (o.ords ++ [y])) (g : W.grownBy W' (Value.slice o.oa o.ords.length o.oc).ownBlock) : OwnSt W' B (stOrds o (o.ords ++ [y]) a c) :=
  ⟨row_kind h.doors h.ords (by decide) g, hn, fun z hz => by
    rcases List.mem_append.1 hz with hz | hz
    · exact row_kind (h.lns z hz) h.ords (by decide) g
    · rw [List.mem_singleton.1 hz]
      exact row_kind hy h.ords (by decide) g, row_kind h.bats h.ords (by decide) g, fun z hz => row_kind (h.mems z hz) h.ords (by decide) g, row_kind h.effs h.ords (by decide) g⟩
theorem OwnSt.batch {W W' : World} {B : Nat} {o : StR} {y : BtR} {a : Option Addr} {c : Nat} (h : OwnSt W B o) (hy : OwnT W B (.slice y.a y.b.mem.length y.c) y.b.mem) (hn : OwnS LB W' B (.slice a (o.bats ++ [y]).length c) (o.bats ++ [y])) (g : W.grownBy W' (Value.slice o.ba o.bats.length o.bc).ownBlock) : OwnSt W' B (stBats o (o.bats ++ [y]) a c) :=
  ⟨row_kind h.doors h.bats (by decide) g, row_kind h.ords h.bats (by decide) g, fun z hz => row_kind (h.lns z hz) h.bats (by decide) g, hn, fun z hz => by
    rcases List.mem_append.1 hz with hz | hz
    · exact row_kind (h.mems z hz) h.bats (by decide) g
    · rw [List.mem_singleton.1 hz]
      exact row_kind hy h.bats (by decide) g, row_kind h.effs h.bats (by decide) g⟩
theorem OwnSt.effects {W : World} {B : Nat} {o : StR} {l : List Ef} {a : Option Addr} {c : Nat} (h : OwnSt W B o) (hn : OwnS LE W B (.slice a l.length c) l) : OwnSt W B (stEffs o l a c) := ⟨h.doors, h.ords, h.lns, h.bats, h.mems, hn⟩
end Go.Proofs.YtfmpibmhhfmajaaGreatDoor
