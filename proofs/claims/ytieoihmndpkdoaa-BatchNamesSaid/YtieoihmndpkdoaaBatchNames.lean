/- BatchNames: the law returns true: the errors, the limit, the kinds and the phases have their numbers. It has no conditions. -/
import Derived.Test.YtieoihmndpkdoaaBtAlive
import Derived.Test.YtieoihmndpkdoaaBtEvict
import Derived.Test.YtieoihmndpkdoaaBtArgs
namespace Go.Proofs.Ytieoihmndpkdoaa
open Go.ChangeShapes Go.WideShapes Go.ChangeAt Go.RowKit

set_option maxRecDepth 100000
attribute [local go_sem ↓] ldBt stBt alBt bxBt ldCp
attribute [local go_sem] al_bt bx_bt alloc_setRow

def btN : Bt := ⟨1, 1000, 0, 1, 1, ⟨#[99]⟩, ⟨#[122]⟩, ⟨#[115]⟩, [⟨#[97]⟩]⟩
def btO : Bt := ⟨1, 1000, 0, 1, 2, ⟨#[99]⟩, ⟨#[122]⟩, ⟨#[115]⟩, [⟨#[97]⟩]⟩
theorem nm1 : joinE bt0 cp2 ⟨#[97]⟩ 1000 = 0 ∧ joinV bt0 cp2 ⟨#[97]⟩ 1000 = btN := ⟨by kernel_rfl, by kernel_rfl⟩
theorem nm2 : joinE btN cp2 ⟨#[98]⟩ 1 = 111 ∧ joinV btN cp2 ⟨#[98]⟩ 1 = btN := ⟨by kernel_rfl, by kernel_rfl⟩
theorem nm3 : joinE btN cp2 ⟨#[97]⟩ 1 = 112 ∧ joinV btN cp2 ⟨#[97]⟩ 1 = btN := ⟨by kernel_rfl, by kernel_rfl⟩
theorem nm4 : evictE btN ⟨#[98]⟩ = 112 ∧ evictV btN ⟨#[98]⟩ 1 = btN := ⟨by kernel_rfl, by kernel_rfl⟩
theorem nm5 : joinE btO cp2 ⟨#[98]⟩ 1 = 113 ∧ joinV btO cp2 ⟨#[98]⟩ 1 = btO := ⟨by kernel_rfl, by kernel_rfl⟩
theorem nmN : btN.mem.Nodup := by decide

set_option maxHeartbeats 4000000 in
theorem names_walk (w : World) : Calls Try.prog 3 #[] w (Tell true w) := by
  have CE := Lib.hid (fun W => empty_any W)
  have C1 := Lib.hid (fun W => show Calls Try.prog 10 #[btV none 0 bt0, cpV cp2, .string ⟨#[97]⟩, .int .i64 1000] W (BtAns btN 0 W) by
    have := btJoin_any none 0 bt0 cp2 ⟨#[97]⟩ 1000 W (StrsP.nil _ _ _) (by decide) (by decide)
    rwa [nm1.1, nm1.2] at this)
  have C2 := Lib.hid (fun a cap W h => show Calls Try.prog 10 #[btV a cap btN, cpV cp2, .string ⟨#[98]⟩, .int .i64 1] W (BtAns btN 111 W) by
    have := btJoin_any a cap btN cp2 ⟨#[98]⟩ 1 W h (by decide) (by decide)
    rwa [nm2.1, nm2.2] at this)
  have C3 := Lib.hid (fun a cap W h => show Calls Try.prog 10 #[btV a cap btN, cpV cp2, .string ⟨#[97]⟩, .int .i64 1] W (BtAns btN 112 W) by
    have := btJoin_any a cap btN cp2 ⟨#[97]⟩ 1 W h (by decide) (by decide)
    rwa [nm3.1, nm3.2] at this)
  have C4 := Lib.hid (fun a cap W h => show Calls Try.prog 12 #[btV a cap btN, .string ⟨#[98]⟩, .int .i64 1] W (BtAns btN 112 W) by
    have := btEvict_any a cap btN ⟨#[98]⟩ 1 W h (by decide) nmN
    rwa [nm4.1, nm4.2] at this)
  have C5 := Lib.hid (fun a cap W h => show Calls Try.prog 10 #[btV a cap btO, cpV cp2, .string ⟨#[98]⟩, .int .i64 1] W (BtAns btO 113 W) by
    have := btJoin_any a cap btO cp2 ⟨#[98]⟩ 1 W h (by decide) (by decide)
    rwa [nm5.1, nm5.2] at this)
  have C6 := Lib.hid (fun W => show Calls Try.prog 14 #[cpV cp2] W (Tell true W) by have := caps_any cp2 W; rwa [show capsB cp2 = true by kernel_rfl] at this)
  have C7 := Lib.hid (fun W => show Calls Try.prog 14 #[.agg #[.int .i64 65, .int .i64 1]] W (Tell false W) by have := caps_any ⟨65, 1⟩ W; rwa [show capsB ⟨65, 1⟩ = false by kernel_rfl] at this)
  have C8 := Lib.hid (fun a cap W => show Calls Try.prog 15 #[btV a cap btN, cpV cp2] W (Tell true W) by have := full_any a cap btN cp2 W; rwa [show fullB btN cp2 = true by kernel_rfl] at this)
  have HM : btO.mem = btN.mem := rfl
  have HO := Lib.hid (show ∀ a c, (btC a c btN).setIfInBounds 4 (.int .i64 2) = btC a c btO from fun _ _ => rfl)
  have K0 := Lib.hid (CapsI.new w cp2)
  have LC := Lib.hid (fun W (h : CapsI w w.heap.size cp2 W) => ld_cp h.row)
  unfold EmptyPost at CE
  unfold BtAns at C1 C2 C3 C4 C5
  unfold cp2 at *
  generalize bt0 = x0 at *
  generalize btN = xa at *
  generalize btO = xo at *
  go_enter Try.func3, Try.ntmps3
  go_wp2_with fail
  generalize w.alloc (Obj.cells #[Value.int IntKind.i64 2, Value.int IntKind.i64 100] 23) = W0 at *
  have KD := K0.out
  have kd1 := KD.below (below_drew W0)
  have kd2 := (KD.below ((Below.refl _ _).alloc (Nat.le_refl _) (.cells zB 28))).below (below_drew _)
  have ld : ∀ W, CapsI w w.heap.size ⟨2, 100⟩ W → LdX 23 (.pointer (some ⟨w.heap.size, 0, none⟩)) W = .ok (.value (cpV ⟨2, 100⟩)) W := fun W h => LC.out W h
  have ka : ∀ W o, CapsI w w.heap.size ⟨2, 100⟩ W → CapsI w w.heap.size ⟨2, 100⟩ (W.alloc o) := fun W o h => h.below ((Below.refl _ _).alloc (Nat.le_refl _) o)
  have sa : ∀ W : World, Slot (W.alloc (.cells zB 28)) W.heap.size := fun W => Slot.new W
  have st : ∀ (W : World) g a cap x, Slot W g → StX 28 (.pointer (some ⟨g, 0, none⟩)) (btV a cap x) W = .ok .skip (W.setRow g (btC a cap x)) := fun W g a cap x h => h.store a cap x
  go_cut [2, 3] (fun p e wx => ∃ g a c, p = .pointer (some ⟨g, 0, none⟩) ∧ e = .int .i64 0 ∧ Hid (Vb wx g a c xa) ∧ Hid (CapsI w w.heap.size ⟨2, 100⟩ wx))
  case first =>
    have hk0 := K0.out.row.lt
    go_region_law (first
      | (go_simp; go_at_call 11; refine (CE.out _).mono ?_; rintro e w2 ⟨rfl, b2⟩; have k2 : CapsI w w.heap.size ⟨2, 100⟩ w2 := CapsI.below (by simp only [*]) b2; have hk2 := k2.row.lt; (try have s2 : Slot w2 W0.heap.size := Slot.below (Slot.drew (Slot.new W0)) b2))
      | (go_simp; go_at_call 10; refine (C1.out _).mono ?_; rintro e w3 ⟨a3, p3, rfl, o3, b3⟩; have k3 : CapsI w w.heap.size ⟨2, 100⟩ w3 := CapsI.below (by simp only [*]) b3; (try have s3 := Slot.below (Slot.new _) b3); (try have s3 := Slot.below s2 b3)))
    all_goals
      have O3 := Lib.hid o3
      go_wp2_with fail
      go_meet
      first
        | exact ⟨_, a3, p3, rfl, rfl, Lib.hid (Vb.new O3.out.reads.2), Lib.hid (k3.below ((Below.refl _ _).alloc (Nat.le_refl _) _))⟩
        | exact ⟨_, a3, p3, rfl, rfl, Lib.hid ⟨s3.row a3 p3 xa, (O3.out.setRow (by first | exact s2.lt | simp) _).reads.2⟩, Lib.hid (k3.setRow (by omega) (by omega) _)⟩
  case rest =>
    obtain ⟨g1, a1, c1, rfl, rfl, V1, K1⟩ := hcut
    have ld1 := ld_bt V1.out.row
    have ldc := LC.out _ K1.out
    go_wp2_with fail
    refine (C2.out a1 c1 _ V1.out.mem).mono ?_
    rintro e w2 ⟨a2, c2, rfl, o2, b2⟩
    have V2 := Lib.hid (V1.out.next b2 (.cells (btC a2 c2 xa) 28))
    have K2 := Lib.hid (K1.out.next b2 (.cells (btC a2 c2 xa) 28))
    clear ld1 ldc V1 K1 o2 b2
    have ld1 := ld_bt V2.out.row
    have ldc := LC.out _ K2.out
    go_wp2_with fail
    refine (C3.out a1 c1 _ V2.out.mem).mono ?_
    rintro e w3 ⟨a3, c3, rfl, o3, b3⟩
    have V3 := Lib.hid (V2.out.next b3 (.cells (btC a3 c3 xa) 28))
    have K3 := Lib.hid (K2.out.next b3 (.cells (btC a3 c3 xa) 28))
    clear ld1 ldc V2 K2 o3 b3
    have ld1 := ld_bt V3.out.row
    have ldc := LC.out _ K3.out
    go_wp2_with fail
    refine (C4.out a1 c1 _ V3.out.mem).mono ?_
    rintro e w4 ⟨a4, c4, rfl, o4, b4⟩
    have V4 := Lib.hid (V3.out.next b4 (.cells (btC a4 c4 xa) 28))
    have K4 := Lib.hid (K3.out.next b4 (.cells (btC a4 c4 xa) 28))
    clear ld1 ldc V3 K3 o4 b4
    have ld1 := ld_bt V4.out.row
    have ldc := LC.out _ K4.out
    generalize hW : w4.alloc (.cells (btC a4 c4 xa) 28) = W4 at *
    have R5 : Hid (Row (W4.alloc (.cells (btC a1 c1 xa) 28)) W4.heap.size 28 (btC a1 c1 xa)) := Lib.hid (heap_alloc_new _ _)
    have q4 : (W4.alloc (.cells (btC a1 c1 xa) 28)).cell? ⟨W4.heap.size, 4, none⟩ = some (.int .i64 xa.phase) := R5.out.cell 4
    have qf := R5.out.free 4
    have ho : (btC a1 c1 xa).setIfInBounds 4 (.int .i64 2) = btC a1 c1 xo := HO.out _ _
    have B5 := Lib.hid ((Below.refl W4.heap.size W4).alloc (Nat.le_refl _) (.cells (btC a1 c1 xo) 28))
    have N5 := Lib.hid (show Vb (W4.alloc (.cells (btC a1 c1 xo) 28)) W4.heap.size a1 c1 xo from Vb.new (by rw [HM]; exact V4.out.mem))
    have V5 := Lib.hid (V4.out.below B5.out)
    have K5 := Lib.hid (K4.out.below B5.out)
    have ld2 := ld_bt N5.out.row
    have ldd := LC.out _ K5.out
    go_wp2_with fail
    refine (C5.out a1 c1 _ N5.out.mem).mono ?_
    rintro e w6 ⟨a6, c6, rfl, o6, b6⟩
    have V6 := Lib.hid (V5.out.next b6 (.cells (btC a6 c6 xo) 28))
    have K6 := Lib.hid (K5.out.next b6 (.cells (btC a6 c6 xo) 28))
    clear ld1 ldc ld2 ldd V4 K4 V5 K5 o6 b6 q4 qf R5 B5 N5
    go_wp2_with fail
    generalize w6.alloc (Obj.cells (btC a6 c6 xo) 28) = W6 at *
    refine (alive_any _).mono ?_
    rintro e w7 ⟨rfl, b7⟩
    have V7 := Lib.hid (V6.out.below b7)
    have K7 := Lib.hid (K6.out.below b7)
    clear V6 K6 b7
    have ldc := LC.out _ K7.out
    go_wp2_with fail
    refine (C6.out _).mono ?_
    rintro e w8 ⟨rfl, b8⟩
    have V8 := Lib.hid (V7.out.below b8)
    have K8 := Lib.hid (K7.out.below b8)
    clear V7 K7 b8 ldc
    go_wp2_with fail
    refine (C7.out _).mono ?_
    rintro e w9 ⟨rfl, b9⟩
    have V9 := Lib.hid (V8.out.below b9)
    have K9 := Lib.hid (K8.out.below b9)
    clear V8 K8 b9
    have ld1 := ld_bt V9.out.row
    have ldc := LC.out _ K9.out
    go_wp2_with fail
    refine (C8.out _ _ _).mono ?_
    rintro e w10 ⟨rfl, b10⟩
    have K10 := Lib.hid (K9.out.below b10)
    clear V9 K9 b10 ld1 ldc
    go_wp2_with fail
    go_ret
    exact ⟨rfl, K10.out.low⟩


set_option maxRecDepth 100000 in
theorem batchNames_lifted (os : Os) (started : os.Started) (H : Type) (enc : TypeId × Value → H) :
    ReturnsInHanded {} Try.checked os 3 .any (Rows.batchNamesSpec.pre6 enc Try.prog Try.f3 Rows.batchNamesRow.domain false) (Rows.batchNamesSpec.post enc Try.prog Try.f3 false true false false) := by
  refine returnsInHanded_of_change (C := Try.checked) own started (by kernel_rfl) Try.func3
    (ChangeSpec.witness6 (enc := enc) (C := Try.checked) false ⟨#[], #[], []⟩ 8 (by kernel_rfl) (by kernel_rfl) (by kernel_rfl) (by kernel_rfl)) ?_
  intro W base args ds gs before hval0 hW _ _
  have hW' := hW
  obtain ⟨p, q, hA0, hV, rfl, _, _⟩ := hW
  have hA : DataW.TrodAll enc Try.prog W 0 (fun _ => true) true Try.f3.params.toList args.toList ds p := hA0
  rw [Try.params3] at hA
  obtain ⟨h1, rfl, rfl⟩ := trodAll_none hA
  have hargs : args = #[] := by simpa using h1
  subst hargs
  obtain ⟨rfl, rfl⟩ := trodVars_none hV
  clear hA0 hval0
  simp only [List.append_nil] at hW'

  refine (names_walk W).mono fun e W' ⟨he, hb⟩ => ?_
  subst he
  exact ⟨_, rfl, _, _, _, [], [], [], hW', trodAll_mk1 (shut_bool Try.underlying4 _), trodAll_mk0, rfl, hb.frame _, fun h => by cases h⟩

theorem batchNames_holds : Rows.BatchNamesSaid :=
  OpenClaim.holds_of_wide 3 Try.f3 rfl rfl rfl rfl rfl rfl rfl ⟨rfl, rfl, rfl, rfl, rfl⟩ rfl rfl rfl rfl rfl (by kernel_rfl) Try.func3 (by kernel_rfl)
    (of_decide_eq_true (by kernel_rfl)) (by unfold Func.isWrapper; first | (rw [if_pos (by decide +kernel)]; kernel_rfl) | (rw [if_neg (by decide +kernel)]; exact ⟨rfl, rfl⟩))
    (fun os started H enc _ => batchNames_lifted os started H enc)
#print axioms batchNames_holds


end Go.Proofs.Ytieoihmndpkdoaa
