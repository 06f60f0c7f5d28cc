/- CheckJoins: the law returns true for any two numbers and any count: Join and Noughts answer as the document does. It has no conditions. -/
import Derived.Test.YtgelfopjolkfdaaArgs
import Derived.Laws.MakeOwn
import Derived.Deep.RegionLaw
namespace Go.Proofs.Ytgelfopjolkfdaa
open Go.ChangeShapes Go.WideShapes Go.ChangeAt Go.RowKit

/-- make([]byte, n). -/
theorem make_run (n : Nat) (hn : n ≤ 3000) (w : World) : (Instr.makeSlice 27 (.int .i64 (n : Int)) (.int .i64 (n : Int))).run Try.prog w = .ok (.slice (some ⟨w.heap.size, 0, none⟩) n n) (w.alloc (.cells (madeCells #[.int .u8 0] n) 5)) := by
  obtain ⟨i, hi⟩ : ∃ i, Try.prog.info? 5 = some i := Option.isSome_iff_exists.1 (by kernel_rfl)
  have hz : (Try.prog.info? 5).bind (·.zero) = some (.int .u8 0) := by kernel_rfl
  have hs : (Try.prog.info? 5).map (·.size) = some 1 := by kernel_rfl
  have hb : (Try.prog.info? 5).map (·.bytes) = some 1 := by kernel_rfl
  rw [hi] at hz hs hb
  simp only [Option.bind_some, Option.map_some, Option.some.injEq] at hz hs hb
  have h := run_make (P := Try.prog) w 27 5 i _ Try.underlying27 hi hz .i64 .i64 n n (by omega) (by omega) (by rw [hb]; omega) (by omega)
  simpa [hs, Value.cells] using h

theorem made_bytes (n : Nat) (hn : n ≤ 3000) (w : World) : BytesP (w.alloc (.cells (madeCells #[.int .u8 0] n) 5)) (some ⟨w.heap.size, 0, none⟩) n (List.replicate n 0) := by
  have e : madeCells #[.int .u8 0] n = ((List.replicate n 0).map bv).toArray := by
    apply Array.ext
    · simp [madeCells]
    · intro i h1 h2
      simp [madeCells, Nat.mod_one]
  rw [e]
  have := bytes_block (List.replicate n 0) (fun b hb => by rw [List.eq_of_mem_replicate hb]; decide) (by simp; omega) w 5 (0, 0)
  rw [List.length_replicate] at this
  exact this

/-- The document's Of noughts. -/
theorem refOf_noughts (n g : Nat) (w : World) (h : BytesP w (some ⟨g, 0, none⟩) n (List.replicate n 0)) : Calls Try.prog 13 #[.slice (some ⟨g, 0, none⟩) n n] w (Num (noughts n) w) := by
  have := refOf_any _ _ _ _ h
  rw [← noughts_crc, List.length_replicate] at this
  exact this

theorem made_later {w w' : World} {o : Obj} {a : Option Addr} {c : Nat} {l : List Nat} (hb : Below (w.alloc o).heap.size (w.alloc o) w') (h : BytesP (w.alloc o) a c l) : BytesP w' a c l := h.below hb
theorem made_below {B : Nat} {w0 w w' : World} {o : Obj} (h : Below B w0 w) (hb : Below (w.alloc o).heap.size (w.alloc o) w') (hB : B ≤ w0.heap.size) : Below B w0 w' :=
  have h1 : Below B w0 (w.alloc o) := h.alloc (Nat.le_trans hB h.size) o
  h1.trans (hb.mono (Nat.le_trans hB h1.size))

set_option maxHeartbeats 4000000 in
theorem joins_walk (a b : Nat) (n : Int) (w : World) (ha : a < 4294967296) (hb : b < 4294967296) (hn : -9223372036854775808 ≤ n ∧ n ≤ 9223372036854775807) :
    Calls Try.prog 5 #[.int .u32 (a : Int), .int .u32 (b : Int), .int .i64 n] w (TrueB w) := by
  obtain ⟨hn0, hn1⟩ := hn
  cases t1 : decide (3000 < n) with
  | true =>
    have C1 := Lib.hid (fun W => join_any a b n W ha hb hn0 hn1)
    have C2 := Lib.hid (fun W => join_any a 0 n W ha (by decide) hn0 hn1)
    rw [join_b a b] at C1
    rw [show ((0 : Nat) : Int) = 0 from rfl] at C2
    have hx := xor_any (join a 0 n.toNat) b (join_lt _ ha (by decide)) hb
    generalize join a 0 n.toNat = p at *
    go_enter Try.func5, Try.ntmps5
    go_wp2_with fail
    refine (alive_any _).mono ?_
    rintro e w1 ⟨rfl, b1⟩
    go_wp2_with fail
    refine (C1.out _).mono ?_
    rintro e w2 ⟨rfl, b2⟩
    have b12 := b1.trans (b2.mono b1.size)
    go_wp2_with fail
    refine (C2.out _).mono ?_
    rintro e w3 ⟨rfl, b3⟩
    have b13 := b12.trans (b3.mono b12.size)
    go_wp2_with fail
    go_ret
    exact ⟨rfl, b13⟩
  | false =>
    have hk : n.toNat ≤ 3000 := by simp at t1; omega
    have hmax : (if n < 0 then (0 : Int) else n) = ((n.toNat : Nat) : Int) := by split <;> omega
    have C1 := Lib.hid (fun W => join_any a b n W ha hb hn0 hn1)
    have C2 := Lib.hid (fun W => refOn_any a n.toNat W ha (by omega))
    have C3 := Lib.hid (fun W => noughts_any n W hn0 hn1)
    have C4 := Lib.hid (fun g W h => refOf_noughts n.toNat g W h)
    have MB := Lib.hid (fun W => made_bytes n.toNat hk W)
    have hmk := make_run n.toNat hk
    have hx := xor_any (halv (8 * n.toNat) a) b (halv_lt _ ha) hb
    rw [show join a b n.toNat = halv (8 * n.toNat) a ^^^ b from Nat.xor_comm _ _] at C1
    generalize halv (8 * n.toNat) a = t at *
    generalize noughts n.toNat = r at *
    generalize n.toNat = k at *
    go_enter Try.func5, Try.ntmps5
    go_wp2_with fail
    refine (alive_any _).mono ?_
    rintro e w1 ⟨rfl, b1⟩
    go_wp2_with fail
    go_region_law (go_simp; first
      | (go_at_call 12; refine (C1.out _).mono ?_; rintro e w2 ⟨rfl, b2⟩; have B2 := Lib.hid (b1.drew.trans (b2.mono b1.drew.size)); clear b2)
      | (go_at_call 14; refine (C2.out _).mono ?_; rintro e w9 ⟨rfl, rfl⟩)
      | (go_at_call 11; refine (C3.out _).mono ?_; rintro e w4 ⟨rfl, b4⟩; first | (have M4 := Lib.hid (made_later (by with_reducible exact b4) (MB.out w2)); have B4 := Lib.hid (made_below B2.out (by with_reducible exact b4) (Nat.le_refl _)); clear b4) | (have B4 := Lib.hid (B2.out.trans (b4.mono B2.out.size)); clear b4))
      | (go_at_call 13; (first | refine (C4.out _ _ M4.out).mono ?_ | refine (C4.out _ _ (MB.out _)).mono ?_); rintro e w9 ⟨rfl, rfl⟩))
    all_goals
      go_wp2_with fail
      go_ret
      first | exact ⟨rfl, B4.out⟩ | exact ⟨rfl, B4.out.alloc B4.out.size _⟩


set_option maxRecDepth 100000 in
theorem checkJoins_lifted (os : Os) (started : os.Started) (H : Type) (enc : TypeId × Value → H) :
    ReturnsInHanded {} Try.checked os 5 .any (Rows.checkJoinsSpec.pre6 enc Try.prog Try.f5 Rows.checkJoinsRow.domain false) (Rows.checkJoinsSpec.post enc Try.prog Try.f5 false true false false) := by
  refine returnsInHanded_of_change (C := Try.checked) own started (by kernel_rfl) Try.func5
    (ChangeSpec.witness6 (enc := enc) (C := Try.checked) false ⟨#[], #[.int .u32 0, .int .u32 0, .int .i64 0], []⟩ 8 (by kernel_rfl) (by kernel_rfl) (by kernel_rfl) (by kernel_rfl)) ?_
  intro W base args ds gs before hval0 hW _ _
  have hval : ∀ (j : Nat) t v, Try.f5.params[j]? = some t → args[j]? = some v → Value.okWide Try.prog W .any base t v := hval0
  have hW' := hW
  obtain ⟨p, q, hA0, hV, rfl, _, _⟩ := hW
  have hA : DataW.TrodAll enc Try.prog W 0 (fun _ => true) true Try.f5.params.toList args.toList ds p := hA0
  rw [Try.params5] at hA hval
  obtain ⟨v0, vs0, d0, ds0, p0, q_0, hargs, rfl, rfl, h0, r0⟩ := trodAll_cons hA
  obtain ⟨v1, vs1, d1, ds1, p1, q_1, rfl, rfl, rfl, h1, r1⟩ := trodAll_cons r0
  obtain ⟨v2, vs2, d2, ds2, p2, q_2, rfl, rfl, rfl, h2, r2⟩ := trodAll_cons r1
  obtain ⟨rfl, rfl, rfl⟩ := trodAll_nil r2
  obtain rfl : args = #[v0, v1, v2] := by cases args; simp_all
  obtain ⟨rfl, rfl⟩ := trodVars_none hV
  clear hA0 hval0
  simp only [List.append_nil] at hW'
  obtain ⟨i0, rfl, rfl, rfl, w0⟩ := open_int Try.underlying23 (hval 0 23 v0 rfl rfl) h0
  obtain ⟨a0, rfl, hn0⟩ := nat_of_u32 w0
  obtain ⟨i1, rfl, rfl, rfl, w1⟩ := open_int Try.underlying23 (hval 1 23 v1 rfl rfl) h1
  obtain ⟨a1, rfl, hn1⟩ := nat_of_u32 w1
  obtain ⟨a2, rfl, rfl, rfl, w2⟩ := open_int Try.underlying3 (hval 2 3 v2 rfl rfl) h2
  refine (joins_walk a0 a1 a2 W hn0 hn1 (bounds_i64 w2)).mono fun e W' ⟨he, hb⟩ => ?_
  subst he
  exact ⟨_, rfl, _, _, _, [], [], [], hW', trodAll_mk1 (shut_bool Try.underlying4 _), (trodAll_cons_mk (shut_int Try.underlying23 w0) (trodAll_cons_mk (shut_int Try.underlying23 w1) (trodAll_cons_mk (shut_int Try.underlying3 w2) trodAll_mk0))), rfl, hb.frame _, fun h => by cases h⟩

theorem checkJoins_holds : Rows.CheckJoinsSaid :=
  OpenClaim.holds_of_wide 5 Try.f5 rfl rfl rfl rfl rfl rfl rfl ⟨rfl, rfl, rfl, rfl, rfl⟩ rfl rfl rfl rfl rfl (by kernel_rfl) Try.func5 (by kernel_rfl)
    (of_decide_eq_true (by kernel_rfl)) (by unfold Func.isWrapper; first | (rw [if_pos (by decide +kernel)]; kernel_rfl) | (rw [if_neg (by decide +kernel)]; exact ⟨rfl, rfl⟩))
    (fun os started H enc _ => checkJoins_lifted os started H enc)
#print axioms checkJoins_holds


end Go.Proofs.Ytgelfopjolkfdaa
