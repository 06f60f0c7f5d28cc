/- BatchTells: the law returns true for any two batches and any caps: whether they can be, and whether both are the same, is as the document says. It has no conditions. -/
import Derived.Test.YtieoihmndpkdoaaBtAlive
import Derived.Test.YtieoihmndpkdoaaBtRight2
import Derived.Test.YtieoihmndpkdoaaBtSame
import Derived.Test.YtieoihmndpkdoaaBtArgs
namespace Go.Proofs.Ytieoihmndpkdoaa
open Go.ChangeShapes Go.WideShapes Go.ChangeAt Go.RowKit

set_option maxRecDepth 100000
attribute [local go_sem ↓] ldBt stBt alBt bxBt ldCp bxCp
attribute [local go_sem] al_bt bx_bt bx_cp alloc_setRow

/-- What came in: two batches and caps, each in a variable. -/
structure TellsI (w : World) (a b : Option Addr) (ca cb : Nat) (x y : Bt) (c : Cp) (W : World) : Prop where
  one : Vp W w.heap.size a ca x
  two : Vp W (w.heap.size + 1) b cb y
  caps : CapsI w (w.heap.size + 2) c W
theorem TellsI.below {w W W' : World} {a b : Option Addr} {ca cb : Nat} {x y : Bt} {c : Cp} (h : TellsI w a b ca cb x y c W) (k : Below W.heap.size W W') : TellsI w a b ca cb x y c W' := ⟨h.one.below k, h.two.below k, h.caps.below k⟩
theorem TellsI.new {w : World} {a b : Option Addr} {ca cb : Nat} {x y : Bt} {c : Cp} (h1 : BtP w a ca x) (h2 : BtP w b cb y) : TellsI w a b ca cb x y c (((w.alloc (.cells (btC a ca x) 28)).alloc (.cells (btC b cb y) 28)).alloc (.cells #[.int .i64 c.count, .int .i64 c.wt] 23)) := by
  have b1 : Below w.heap.size w (w.alloc (.cells (btC a ca x) 28)) := (Below.refl _ _).alloc (Nat.le_refl _) _
  have b2 : Below (w.alloc (.cells (btC a ca x) 28)).heap.size (w.alloc (.cells (btC a ca x) 28)) ((w.alloc (.cells (btC a ca x) 28)).alloc (.cells (btC b cb y) 28)) := (Below.refl _ _).alloc (Nat.le_refl _) _
  have b3 : Below ((w.alloc (.cells (btC a ca x) 28)).alloc (.cells (btC b cb y) 28)).heap.size ((w.alloc (.cells (btC a ca x) 28)).alloc (.cells (btC b cb y) 28)) _ := (Below.refl _ _).alloc (Nat.le_refl _) (.cells #[.int .i64 c.count, .int .i64 c.wt] 23)
  have e1 : (w.alloc (.cells (btC a ca x) 28)).heap.size = w.heap.size + 1 := by simp
  have e2 : ((w.alloc (.cells (btC a ca x) 28)).alloc (.cells (btC b cb y) 28)).heap.size = w.heap.size + 2 := by simp
  have v2 := (Vp.new (h2.below b1)).below b3
  have v3 := CapsI.new ((w.alloc (.cells (btC a ca x) 28)).alloc (.cells (btC b cb y) 28)) c
  rw [e1] at v2
  have r3 := v3.row
  rw [e2] at r3
  exact ⟨((Vp.new h1).below b2).below b3, v2, r3, (b1.trans (b2.mono b1.size)).trans (b3.mono (Nat.le_trans b1.size b2.size))⟩

set_option maxHeartbeats 8000000 in
theorem tells_walk (a b : Option Addr) (ca cb : Nat) (x y : Bt) (c : Cp) (w : World) (h1 : BtP w a ca x) (h2 : BtP w b cb y) : Calls Try.prog 4 #[btV a ca x, btV b cb y, cpV c] w (Tell true w) := by
  have K0 := Lib.hid (TellsI.new (c := c) h1 h2)
  clear h1 h2
  go_enter Try.func4, Try.ntmps4
  go_wp2_with fail
  generalize ((w.alloc (.cells (btC a ca x) 28)).alloc (.cells (btC b cb y) 28)).alloc (.cells #[.int .i64 c.count, .int .i64 c.wt] 23) = W0 at *
  refine (alive_any _).mono ?_
  rintro e W ⟨rfl, b1⟩
  have K := Lib.hid (K0.out.below b1)
  clear b1 K0
  have m1 := K.out.one.var.c8
  have m2 := K.out.two.var.c8
  cases hl : decide (100 < (x.mem.length : Int)) with
  | true =>
    go_wp2_with fail
    go_ret
    exact ⟨rfl, K.out.caps.low⟩
  | false =>
    cases hm : decide (100 < (y.mem.length : Int)) with
    | true =>
      go_wp2_with fail
      go_ret
      exact ⟨rfl, K.out.caps.low⟩
    | false =>
      go_wp2_with fail
      clear m1 m2
      have f1 : ∀ p : Far W, LdX 28 (.pointer (some ⟨w.heap.size, 0, none⟩)) (farOf W p) = .ok (.value (btV a ca x)) (farOf W p) := fun p => ld_bt (K.out.below (far_below W p)).one.var.row
      have f2 : ∀ p : Far W, LdX 28 (.pointer (some ⟨w.heap.size + 1, 0, none⟩)) (farOf W p) = .ok (.value (btV b cb y)) (farOf W p) := fun p => ld_bt (K.out.below (far_below W p)).two.var.row
      have f3 : ∀ p : Far W, LdX 23 (.pointer (some ⟨w.heap.size + 2, 0, none⟩)) (farOf W p) = .ok (.value (cpV c)) (farOf W p) := fun p => ld_cp (K.out.below (far_below W p)).caps.row
      have C1 := Lib.hid (fun p : Far W => btRight_any a ca x _ (K.out.below (far_below W p)).one.bt)
      have C2 := Lib.hid (fun p : Far W => refBtRight_any a ca x _ (K.out.below (far_below W p)).one.bt)
      have C3 := Lib.hid (fun p : Far W => caps_any c (farOf W p))
      have C4 := Lib.hid (fun p : Far W => refCaps_any c (farOf W p))
      have C5 := Lib.hid (fun p : Far W => btSame_any a b ca cb x y _ (K.out.below (far_below W p)).one.bt (K.out.below (far_below W p)).two.bt)
      have C6 := Lib.hid (fun p : Far W => refBtSame_any a b ca cb x y _ (K.out.below (far_below W p)).one.bt (K.out.below (far_below W p)).two.bt)
      generalize rightBt x = r1 at *
      generalize capsB c = r2 at *
      generalize sameBt x y = r3 at *
      cases r1 <;> cases r2 <;> cases r3
      all_goals
        refine wp_region_far (by kernel_rfl) (by kernel_rfl) ?_
        repeat (first | go_big_quiet_step (first | (go_at_call 16; exact calls_far (C1.out _)) | (go_at_call 17; exact calls_far (C2.out _)) | (go_at_call 14; exact calls_far (C3.out _)) | (go_at_call 18; exact calls_far (C4.out _)) | (go_at_call 19; exact calls_far (C5.out _)) | (go_at_call 20; exact calls_far (C6.out _))) | quiet_step (first | (go_at_call 16; exact calls_far (C1.out _)) | (go_at_call 17; exact calls_far (C2.out _)) | (go_at_call 14; exact calls_far (C3.out _)) | (go_at_call 18; exact calls_far (C4.out _)) | (go_at_call 19; exact calls_far (C5.out _)) | (go_at_call 20; exact calls_far (C6.out _))))
        refine wpQuiet_nil ?_
        intro _ hw'
        obtain ⟨p, hw''⟩ := hw'
        subst hw''
        have B4 := Lib.hid (K.out.below (far_below W p)).caps.low
        clear f1 f2 f3 C1 C2 C3 C4 C5 C6 K
        go_wp2_with fail
        go_ret
        exact ⟨rfl, B4.out⟩


set_option maxRecDepth 100000 in
theorem batchTells_lifted (os : Os) (started : os.Started) (H : Type) (enc : TypeId × Value → H) :
    ReturnsInHanded {} Try.checked os 4 .any (Rows.batchTellsSpec.pre6 enc Try.prog Try.f4 Rows.batchTellsRow.domain false) (Rows.batchTellsSpec.post enc Try.prog Try.f4 false true false false) := by
  refine returnsInHanded_of_change (C := Try.checked) own started (by kernel_rfl) Try.func4
    (ChangeSpec.witness6 (enc := enc) (C := Try.checked) false ⟨#[], #[.agg #[.int .i64 0, .int .i64 0, .int .i64 0, .int .i64 0, .int .i64 0, .string ⟨#[]⟩, .string ⟨#[]⟩, .string ⟨#[]⟩, .slice none 0 0], .agg #[.int .i64 0, .int .i64 0, .int .i64 0, .int .i64 0, .int .i64 0, .string ⟨#[]⟩, .string ⟨#[]⟩, .string ⟨#[]⟩, .slice none 0 0], .agg #[.int .i64 0, .int .i64 0]], []⟩ 8 (by kernel_rfl) (by kernel_rfl) (by kernel_rfl) (by kernel_rfl)) ?_
  intro W base args ds gs before hval0 hW _ _
  have hval : ∀ (j : Nat) t v, Try.f4.params[j]? = some t → args[j]? = some v → Value.okWide Try.prog W .any base t v := hval0
  have hW' := hW
  obtain ⟨p, q, hA0, hV, rfl, _, _⟩ := hW
  have hA : DataW.TrodAll enc Try.prog W 0 (fun _ => true) true Try.f4.params.toList args.toList ds p := hA0
  rw [Try.params4] at hA hval
  obtain ⟨v0, vs0, d0, ds0, p0, q_0, hargs, rfl, rfl, h0, r0⟩ := trodAll_cons hA
  obtain ⟨v1, vs1, d1, ds1, p1, q_1, rfl, rfl, rfl, h1, r1⟩ := trodAll_cons r0
  obtain ⟨v2, vs2, d2, ds2, p2, q_2, rfl, rfl, rfl, h2, r2⟩ := trodAll_cons r1
  obtain ⟨rfl, rfl, rfl⟩ := trodAll_nil r2
  obtain rfl : args = #[v0, v1, v2] := by cases args; simp_all
  obtain ⟨rfl, rfl⟩ := trodVars_none hV
  clear hA0 hval0
  simp only [List.append_nil] at hW'
  obtain ⟨q0, cap0, o0, rfl, hS0⟩ := batch_of_trod (hval 0 28 v0 rfl rfl) h0
  have hlt0 : ∀ x ∈ p0, x.block < W.heap.size := fun x hx => by simpa using hW'.lt x (by simpa using (by simp [hx]))
  obtain ⟨q1, cap1, o1, rfl, hS1⟩ := batch_of_trod (hval 1 28 v1 rfl rfl) h1
  have hlt1 : ∀ x ∈ p1, x.block < W.heap.size := fun x hx => by simpa using hW'.lt x (by simpa using (by simp [hx]))
  obtain ⟨c2, rfl⟩ := caps_of_trod (hval 2 23 v2 rfl rfl) h2
  have hlt2 : ∀ x ∈ p2, x.block < W.heap.size := fun x hx => by simpa using hW'.lt x (by simpa using (by simp [hx]))
  refine (tells_walk q0 q1 cap0 cap1 o0 o1 c2 W hS0 hS1).mono fun e W' ⟨he, hb⟩ => ?_
  subst he
  have hT : DataW.TrodAll enc Try.prog W' 0 (fun b => decide (b < W.heap.size)) true _ _ _ _ := (trodAll_cons_mk (Below.trod laidOut (by kernel_rfl) (of_decide_eq_true (by kernel_rfl)) h0 hb hlt0) (trodAll_cons_mk (Below.trod laidOut (by kernel_rfl) (of_decide_eq_true (by kernel_rfl)) h1 hb hlt1) (trodAll_cons_mk (Below.trod laidOut (by kernel_rfl) (of_decide_eq_true (by kernel_rfl)) h2 hb hlt2) trodAll_mk0)))
  simp only [List.append_nil] at hT
  exact ⟨_, rfl, _, _, _, [], p0 ++ (p1 ++ (p2)), [], hW', trodAll_mk1 (shut_bool Try.underlying4 _), hT, rfl, hb.frame _, fun h => by cases h⟩

theorem batchTells_holds : Rows.BatchTellsSaid :=
  OpenClaim.holds_of_wide 4 Try.f4 rfl rfl rfl rfl rfl rfl rfl ⟨rfl, rfl, rfl, rfl, rfl⟩ rfl rfl rfl rfl rfl (by kernel_rfl) Try.func4 (by kernel_rfl)
    (of_decide_eq_true (by kernel_rfl)) (by unfold Func.isWrapper; first | (rw [if_pos (by decide +kernel)]; kernel_rfl) | (rw [if_neg (by decide +kernel)]; exact ⟨rfl, rfl⟩))
    (fun os started H enc _ => batchTells_lifted os started H enc)
#print axioms batchTells_holds


end Go.Proofs.Ytieoihmndpkdoaa
