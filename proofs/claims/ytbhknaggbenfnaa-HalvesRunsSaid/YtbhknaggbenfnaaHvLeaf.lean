/- What own, anyTwice and Split of package halves answer. -/
import Derived.Test.YtbhknaggbenfnaaTxMem
import Derived.Test.YtbhknaggbenfnaaHvPlain
import Derived.Maps.OwnSet
import Derived.WalkSpells
import Derived.Deep.DeepMust
import Derived.Deep.RegionLaw
namespace Go.Proofs.Ytbhknaggbenfnaa
set_option maxRecDepth 100000
open Go.RowKit Go.Maps

set_option maxHeartbeats 1000000 in
theorem own_any (a : Option Addr) (cap : Nat) (l : List ByteArray) (w : World) (h : StrsP w a cap l) (hl : l.length ≤ 100000) : Calls Try.prog 24 #[.slice a l.length cap] w (OwnTs l w) := by
  have H := Lib.hid h
  clear h
  go_enter Try.func24, Try.ntmps24
  go_wp2_with (at_builtin; go_must (refine wpList_append_texts rfl _ _ rfl w.heap.size (.slice none 0 0) [] l rfl (OwnT.nil _ _) a cap rfl H.out (by simp; omega) (Nat.le_refl _) ?_))
  intro v' w' ho hg
  have B := Lib.hid ((Below.refl w.heap.size w).grown hg (Nat.le_refl _) (fun k hk => by cases hk))
  have O := Lib.hid ho
  clear ho hg
  go_wp2_with fail
  go_ret
  exact ⟨_, rfl, O.out, B.out⟩

/-- Some text stands among those ahead of it. -/
def dupT (pre : List ByteArray) : List ByteArray → Bool
  | [] => false
  | x :: r => hasT pre x || dupT (pre ++ [x]) r
theorem dupT_no : ∀ (l pre : List ByteArray), dupT pre l = false ↔ (∀ x ∈ l, x ∉ pre) ∧ l.Nodup
  | [], pre => by simp [dupT]
  | x :: r, pre => by
    rw [dupT, Bool.or_eq_false_iff, hasT_no, dupT_no r]
    simp only [List.mem_append, List.mem_cons, List.not_mem_nil, or_false, not_or, List.nodup_cons, forall_eq_or_imp]
    constructor
    · rintro ⟨h1, h2, h3⟩
      exact ⟨⟨h1, fun y hy => (h2 y hy).1⟩, fun e => (h2 x e).2 rfl, h3⟩
    · rintro ⟨⟨h1, h2⟩, h3, h4⟩
      exact ⟨h1, fun y hy => ⟨h2 y hy, fun e => h3 (e ▸ hy)⟩, h4⟩
def twiceT (l : List ByteArray) : Bool := dupT [] l
theorem twiceT_no (l : List ByteArray) : twiceT l = false ↔ l.Nodup := by
  unfold twiceT
  rw [dupT_no]
  simp
theorem dupT_step (l : List ByteArray) (k : Nat) (h : k < l.length) : dupT (l.take k) (l.drop k) = (hasT (l.take k) l[k] || dupT (l.take (k + 1)) (l.drop (k + 1))) := by
  rw [List.drop_eq_getElem_cons h, dupT, List.take_add_one, List.getElem?_eq_getElem h]
  rfl

/-- The set of these texts. -/
def setS (l : List ByteArray) : DataW Unit := setOf (.agg []) (l.map fun s => Lit.string s.data.toList)
theorem has_setS (l : List ByteArray) (x : ByteArray) : Maps.has (setS l) (.string x.data.toList) = hasT l x := by
  unfold setS
  rw [has_setOf _ _ _ (fun y hy => by obtain ⟨_, _, rfl⟩ := List.mem_map.1 hy; trivial), List.any_map]
  unfold hasT
  congr 1
  funext y
  show (y.data.toList == x.data.toList) = _
  rw [ByteArray.toList_eq, ByteArray.toList_eq]
theorem setS_new (l : List ByteArray) (k : Nat) (h : k < l.length) : setS (l.take (k + 1)) = (setS (l.take k)).put (.string l[k].data.toList) (.agg []) := by
  unfold setS
  rw [List.take_add_one, List.getElem?_eq_getElem h, List.map_append]
  simp only [Option.toList, List.map_cons, List.map_nil]
  rw [setOf_snoc]

theorem law9 : Keyed Try.prog 9 := string_keyed Try.underlying9
theorem zeroU (w : World) : (zeroValue 53).run Try.prog w = .ok (.agg #[]) w := by kernel_rfl
theorem run_makeMapN (n : Nat) (_hn : n ≤ 1000000) (w : World) : (Instr.makeMap 52 (some (.int .i64 (n : Int)))).run Try.prog w = .ok (.map (some w.heap.size)) (w.alloc (.map #[] 0)) := by
  rfl

set_option maxHeartbeats 4000000 in
theorem anyTwice_any (a : Option Addr) (cap : Nat) (l : List ByteArray) (w : World) (h : StrsP w a cap l) (hl : l.length ≤ 100000) (hs : ∀ s ∈ l, s.size ≤ maxLen) :
    Calls Try.prog 23 #[.slice a l.length cap] w (BoolB (twiceT l) w) := by
  have hmm := run_makeMapN l.length (by omega)
  have H := Lib.hid h
  have S := Lib.hid hs
  clear h hs
  go_enter Try.func23, Try.ntmps23
  go_wp2
  go_loopw [13] (fun i wr => ∃ k : Nat, k ≤ l.length ∧ i = .int .i64 k ∧ Hid (twiceT l = dupT (l.take k) (l.drop k)) ∧ wr.ownsMap Try.prog 9 unitElem w.heap.size k (setS (l.take k)) ∧ Below w.heap.size w wr) (fun i _ => l.length - (intOf i).toNat)
  case atStart => exact ⟨0, Nat.zero_le _, rfl, Lib.hid rfl, World.ownsMap_made _ _ _ _, (Below.refl _ _).alloc (Nat.le_refl _) _⟩
  case round =>
    obtain ⟨k, hk, rfl, HK, hown, hnx⟩ := hrel
    clear hmm
    by_cases hlt : k < l.length
    · obtain ⟨b, o, rfl, q1, c1⟩ := (H.out.below hnx).at k hlt
      have p1 := H.out.cap
      have hkey := Go.WideMaps.keyOf_string_mk Try.underlying9 (S.out l[k] (List.getElem_mem hlt))
      have HS := Lib.hid (dupT_step l k hlt)
      have HN := Lib.hid (setS_new l k hlt)
      have HH := Lib.hid (has_setS (l.take k) l[k])
      generalize l[k] = x at *
      generalize hD : setS (l.take k) = D at *
      cases hb : hasT (l.take k) x with
      | true =>
        have HE := Lib.hid (show twiceT l = true by rw [HK.out, HS.out, hb]; rfl)
        have ht : Maps.has D (Lit.string x.data.toList) = true := by rw [HH.out, hb]
        clear hD hb
        go_wp2_with (first
          | (at_lookup; refine wpList_lookup_own_unit _ rfl _ _ 52 rfl 9 53 law9 Try.underlying52 (zeroU _) w.heap.size k _ rfl hown _ _ rfl hkey ?_; rw [ht])
          | fail)
        go_ret
        exact ⟨by rw [HE.out]; rfl, hnx.alloc hnx.size _⟩
      | false =>
        have HE := Lib.hid (show twiceT l = dupT (l.take (k + 1)) (l.drop (k + 1)) by rw [HK.out, HS.out, hb]; rfl)
        have ht : Maps.has D (Lit.string x.data.toList) = false := by rw [HH.out, hb]
        clear hD hb
        go_wp2_with (first
          | (at_lookup; refine wpList_lookup_own_unit _ rfl _ _ 52 rfl 9 53 law9 Try.underlying52 (zeroU _) w.heap.size k _ rfl hown _ _ rfl hkey ?_; rw [ht])
          | (at_mapUpdate; refine wpList_mapUpdate_own _ rfl _ _ _ 52 rfl 9 53 law9 Try.underlying52 (unitElem (H := Unit)) w.heap.size k _ rfl (hown.alloc _) (by unfold maxLen; omega) _ _ _ rfl rfl hkey _ [] unitElem_mk ?_; intro w1 hown1 hgrow1)
          | fail)
        go_roundw
        case rel =>
          refine ⟨k + 1, by omega, by go_num, HE, ?_, ?_⟩
          · rw [HN.out]; exact hown1
          · exact (hnx.alloc hnx.size _).grown hgrow1 (by have := hnx.size; simp; omega) (fun j hj => by cases hj; exact Nat.le_refl _)
        case measure => simp [intOf]; omega
    · have HE := Lib.hid (show twiceT l = false by rw [HK.out, List.drop_eq_nil_of_le (by omega)]; rfl)
      go_wp2_with fail
      go_ret
      exact ⟨by rw [HE.out]; rfl, hnx⟩

/-- Both halves are answered, in memory of the call's own. -/
def SplitPost (x y : List ByteArray) (w : World) (e : Ending) (w' : World) : Prop := ∃ v1 v2, e = .returned (.tuple #[v1, v2]) ∧ OwnT w' w.heap.size v1 x ∧ OwnT w' w.heap.size v2 y ∧ Below w.heap.size w w'

set_option maxHeartbeats 4000000 in
theorem split_any (a : Option Addr) (cap : Nat) (l : List ByteArray) (w : World) (h : StrsP w a cap l) (hl : l.length ≤ 100000) :
    Calls Try.prog 12 #[.slice a l.length cap] w (SplitPost (halfA l) (halfB l) w) := by
  have hk : halfN l.length ≤ l.length := by unfold halfN; omega
  have hi : ((l.length : Int) - (l.length : Int) / 2) = (halfN l.length : Int) := by unfold halfN; omega
  obtain ⟨a1, c1, e1, p1⟩ := slice_toT (a := a) h.cap (halfN l.length) _ rfl hk
  obtain ⟨a2, c2, e2, p2⟩ := slice_fromT (a := a) h.cap (halfN l.length) _ rfl hk
  have la : (halfA l).length ≤ 100000 := by rw [halfA_len]; omega
  have lb : (halfB l).length ≤ 100000 := by rw [halfB_len]; omega
  have CA := Lib.hid (fun W (hb : Below w.heap.size w W) => own_any a1 c1 (halfA l) W (p1 W (h.below hb)) la)
  have CB := Lib.hid (fun W (hb : Below w.heap.size w W) => own_any a2 c2 (halfB l) W (p2 W (h.below hb)) lb)
  change ∀ W, (Instr.slice 27 (.slice a l.length cap) none (some (.int .i64 (halfN l.length : Int))) none).run Try.prog W = .ok (.slice a1 (halfA l).length c1) W at e1
  change ∀ W, (Instr.slice 27 (.slice a l.length cap) (some (.int .i64 (halfN l.length : Int))) none none).run Try.prog W = .ok (.slice a2 (halfB l).length c2) W at e2
  clear p1 p2 la lb h hk
  generalize halfA l = x at *
  generalize halfB l = y at *
  generalize halfN l.length = k at *
  go_enter Try.func12, Try.ntmps12
  go_wp2_with fail
  have D0 := (Below.refl w.heap.size w).drew
  clear hi
  go_region_law (first
    | ((try go_simp); go_at_call 24; refine (CB.out _ D1).mono ?_; rintro e w2 ⟨v2, rfl, o2, b2⟩)
    | ((try go_simp); go_at_call 24; refine (CA.out _ D0).mono ?_; rintro e w1 ⟨v1, rfl, o1, b1⟩; have D1 := D0.trans (b1.mono D0.size)))
  go_wp2_with fail
  go_ret2
  exact ⟨_, _, rfl, (o1.below b2), o2.base D1.size, D1.trans (b2.mono D1.size)⟩

end Go.Proofs.Ytbhknaggbenfnaa
