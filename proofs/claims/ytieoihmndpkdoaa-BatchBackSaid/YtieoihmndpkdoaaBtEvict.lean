/- What Evict of package batch answers, at every batch whose members are each there once. -/
import Derived.Test.YtieoihmndpkdoaaBtJoin
import Derived.Test.YtieoihmndpkdoaaTxCat
import Derived.Deep.RegionLaw
namespace Go.Proofs.Ytieoihmndpkdoaa
set_option maxRecDepth 100000
open Go.RowKit Go.ChangeShapes Go.WideShapes Go.ChangeAt

theorem evictE_closed {b : Bt} {id : ByteArray} {x : Int} (h : (b.phase != 1) = true) : evictE b id = 113 ∧ evictV b id x = b := by
  have e : evictE b id = 113 := by unfold evictE; rw [if_pos (by simpa using h)]
  exact ⟨e, by unfold evictV; rw [e]; rfl⟩
theorem evictE_none {b : Bt} {id : ByteArray} {x : Int} (h : (b.phase != 1) = false) (h2 : hasT b.mem id = false) : evictE b id = 112 ∧ evictV b id x = b := by
  have e : evictE b id = 112 := by unfold evictE; rw [if_neg (by simpa using h), if_neg (by rw [h2]; simp)]
  exact ⟨e, by unfold evictV; rw [e]; rfl⟩
theorem evictE_fine {b : Bt} {id : ByteArray} {x : Int} (h : (b.phase != 1) = false) (h2 : hasT b.mem id = true) : evictE b id = 0 ∧ evictV b id x = evictD b id x := by
  have e : evictE b id = 0 := by unfold evictE; rw [if_neg (by simpa using h), if_pos h2]
  exact ⟨e, by unfold evictV; rw [e]; rfl⟩

set_option maxHeartbeats 8000000 in
theorem btEvict_any (a : Option Addr) (cap : Nat) (b : Bt) (id : ByteArray) (x : Int) (w : World) (h : StrsP w a cap b.mem) (hl : b.mem.length ≤ 10000) (hn : b.mem.Nodup) :
    Calls Try.prog 12 #[btV a cap b, .string id, .int .i64 x] w (BtAns (evictV b id x) (evictE b id) w) := by
  have CO := Lib.hid (fun W hW => btOwn_any a cap b W hW (by omega))
  have CI := Lib.hid (fun W hW => index_any a cap b.mem id W hW)
  have CL := Lib.hid (fun w => less_any b.wt x w)
  have H := Lib.hid h
  have DI := Lib.hid (BtI.new w (btC a cap b) zB)
  have HN := Lib.hid hn
  clear h hn
  unfold btV at *
  unfold btC zB at *
  go_enter Try.func12, Try.ntmps12
  obtain ⟨⟨⟨c0, c1, c2, c3, c4⟩, c5, c6, c7, c8⟩, f⟩ := cellsR9 DI.out.var
  cases h1 : (b.phase != 1) with
  | true =>
    have HE := Lib.hid (evictE_closed (id := id) (x := x) h1)
    go_wp2_with fail
    refine (CO.out _ (H.out.below DI.out.low)).mono ?_
    rintro e w9 ⟨a1, p1, rfl, o1, b9⟩
    have D9 := Lib.hid (DI.out.below b9)
    have O9 := Lib.hid (o1.base (base' := w.heap.size + 2) DI.out.res.lt)
    clear c0 c1 c2 c3 c4 c5 c6 c7 c8 f
    clear o1 b9
    go_wp2_with (refine wpList_store_batch rfl _ _ rfl (w.heap.size + 1) a1 p1 b _ (by rfl) rfl rfl D9.out.res ?_)
    (try simp only [Exit.inBlock, Exit.then])
    apply bodyPost_ret
    case hd => rfl
    case hr => exact results_cell_one rfl _ _ (w.heap.size + 1) _ rfl (load9 (b := b) (setRow_heap _ _ _ _ _ _ D9.out.res))
    case hR => exact ⟨a1, p1, by rw [HE.out.1, HE.out.2]; rfl, by rw [HE.out.2]; exact (O9.out.grown fun k h1 h2 => setRow_other _ _ k _ (by omega)).base (by omega), Below.row D9.out.low (by omega) _⟩
  | false =>
    have HX := Lib.hid (findK_has b.mem 0 id)
    have HF := Lib.hid (fun h2 => evictE_none (id := id) (x := x) h1 h2)
    have HG := Lib.hid (fun h2 => evictE_fine (id := id) (x := x) h1 h2)
    generalize findK 0 id b.mem = n at *
    go_wp2_with fail
    refine (CI.out _ (H.out.below DI.out.low)).mono ?_
    rintro e w1 ⟨rfl, rfl⟩
    rcases HX.out with ⟨h2, j, e2, h3⟩ | ⟨h2, e2⟩
    rotate_left
    · subst e2
      have HE := Lib.hid (HF.out h2)
      go_wp2_with fail
      refine (CO.out _ (H.out.below DI.out.low)).mono ?_
      rintro e w9 ⟨a1, p1, rfl, o1, b9⟩
      have D9 := Lib.hid (DI.out.below b9)
      have O9 := Lib.hid (o1.base (base' := w.heap.size + 2) DI.out.res.lt)
      clear c0 c1 c2 c3 c4 c5 c6 c7 c8 f
      clear o1 b9
      go_wp2_with (refine wpList_store_batch rfl _ _ rfl (w.heap.size + 1) a1 p1 b _ (by rfl) rfl rfl D9.out.res ?_)
      (try simp only [Exit.inBlock, Exit.then])
      apply bodyPost_ret
      case hd => rfl
      case hr => exact results_cell_one rfl _ _ (w.heap.size + 1) _ rfl (load9 (b := b) (setRow_heap _ _ _ _ _ _ D9.out.res))
      case hR => exact ⟨a1, p1, by rw [HE.out.1, HE.out.2]; rfl, by rw [HE.out.2]; exact (O9.out.grown fun k h1 h2 => setRow_other _ _ k _ (by omega)).base (by omega), Below.row D9.out.low (by omega) _⟩
    · obtain ⟨hj, e3⟩ := List.getElem?_eq_some_iff.1 h3
      rw [Nat.zero_add] at e2
      subst e2
      have HE := Lib.hid (HG.out h2)
      have HD := Lib.hid (show evictD b id x = ⟨b.id, lessV b.wt x, b.born, b.kind, b.phase, b.car, b.zone, b.serv, b.mem.take j ++ b.mem.drop (j + 1)⟩ by
        have := drop_first HN.out hj
        rw [e3] at this
        rw [this]; rfl)
      clear HF HG HX h2 h3 e3
      have hw1 : IntKind.i64.wrap ((j : Int) + 1) = (j : Int) + 1 := by rw [IntKind.wrap_i64]; omega
      have hcp := H.out.cap
      obtain ⟨a2, p2, s2, k2⟩ := slice_toT (a := a) (l := b.mem) hcp j (j : Int) rfl (by omega)
      obtain ⟨a3, p3, s3, k3⟩ := slice_fromT (a := a) (l := b.mem) hcp (j + 1) ((j : Int) + 1) (by omega) (by omega)
      have S2 := Lib.hid s2
      have S3 := Lib.hid s3
      clear s2 s3
      go_wp2_with fail
      refine (CL.out _).mono ?_
      rintro e w2 ⟨rfl, b2⟩
      have D2 := Lib.hid (DI.out.below b2)
      clear c0 c1 c2 c3 c4 c5 c6 c7 c8 f
      clear b2 DI CI CL
      obtain ⟨⟨⟨c0, c1, c2, c3, c4⟩, c5, c6, c7, c8⟩, f⟩ := cellsR9 D2.out.var
      have hq := D2.out.res.lt
      generalize lessV b.wt x = s at *
      generalize lessE b.wt x = er at *
      have D3 := Lib.hid (D2.out.set (Nat.le_refl _) (by omega) 1 (.int .i64 s))
      have K2 := Lib.hid (fun W hW => k2 W hW)
      have K3 := Lib.hid (fun W hW => k3 W hW)
      clear k2 k3
      have hlen2 : (b.mem.take j).length + (b.mem.drop (j + 1)).length ≤ 100000 := by rw [List.length_take, List.length_drop]; omega
      have s2 := S2.out
      have s3 := S3.out
      clear S2 S3
      generalize b.mem.take j = d1 at *
      generalize b.mem.drop (j + 1) = d2 at *
      have CK : Hid (∀ N W, W.heap.size = N → StrsP W a2 p2 d1 → StrsP W a3 p3 d2 → Calls Try.prog 38 #[.slice (some ⟨N, 0, none⟩) 2 2] (W.alloc (.cells #[.slice a2 d1.length p2, .slice a3 d2.length p3] 26)) (OwnTs (d1 ++ d2) (W.alloc (.cells #[.slice a2 d1.length p2, .slice a3 d2.length p3] 26)))) := Lib.hid (by
        intro N W hN g1 g2
        subst hN
        have := concatT_any _ 2 [⟨a2, p2, d1⟩, ⟨a3, p3, d2⟩] _ (listsT_two g1 g2 26) (by simp [flatT]; omega)
        rwa [show flatT [⟨a2, p2, d1⟩, ⟨a3, p3, d2⟩] = d1 ++ d2 by simp [flatT]] at this)
      go_wp2_with fail
      have K2d := Lib.hid (K2.out _ (H.out.below (D3.out.low.trans ((Below.refl _ _).drew.mono D3.out.low.size))))
      have K3d := Lib.hid (K3.out _ (H.out.below (D3.out.low.trans ((Below.refl _ _).drew.mono D3.out.low.size))))
      have DW := Lib.hid ((D3.out.below (Below.refl _ _).drew).below ((Below.refl _ _).alloc (Nat.le_refl _) (.cells #[.slice a2 d1.length p2, .slice a3 d2.length p3] 26)))
      generalize d1 ++ d2 = m at *
      generalize w2.setCell ⟨w.heap.size, 1, none⟩ (.int .i64 s) = W3 at *
      clear c0 c1 c2 c3 c4 c5 c6 c7 c8 f
      obtain ⟨⟨⟨c0, c1, c2, c3, c4⟩, c5, c6, c7, c8⟩, f⟩ := cellsR9 D3.out.var
      go_region_law (go_simp; go_at_call 38; refine (CK.out _ W3.drew rfl K2d.out K3d.out).mono ?_; rintro e w4 ⟨v4, rfl, o4, b4⟩; obtain ⟨a4, p4, e4⟩ := o4.shape; subst e4; have D4 := Lib.hid (DW.out.below b4); have O4 := Lib.hid (o4.base (base' := w.heap.size + 2) (by have := DW.out.res.lt; omega)); have z1 : w4.cell? ⟨w.heap.size, 8, none⟩ = some (.slice a b.mem.length cap) := D4.out.var.cell 8; have zf : w4.frozen? ⟨w.heap.size, 8, none⟩ = false := D4.out.var.free 8; clear o4 b4)
      all_goals
        have D5 := Lib.hid (D4.out.set (Nat.le_refl _) (by omega) 8 (.slice a4 m.length p4))
        have O5 := Lib.hid (O4.out.cell (k := w.heap.size) (by omega) 8 (.slice a4 m.length p4))
        clear c0 c1 c2 c3 c4 c5 c6 c7 c8 f
        clear z1 zf D4 O4
        obtain ⟨⟨⟨c0, c1, c2, c3, c4⟩, c5, c6, c7, c8⟩, f⟩ := cellsR9 D5.out.var
        go_wp2_with (refine wpList_store_batch rfl _ _ rfl (w.heap.size + 1) a4 p4 ⟨b.id, s, b.born, b.kind, b.phase, b.car, b.zone, b.serv, m⟩ _ (by rfl) rfl rfl D5.out.res ?_)
        (try simp only [Exit.inBlock, Exit.then])
        apply bodyPost_ret
        case hd => rfl
        case hr => exact results_cell_one rfl _ _ (w.heap.size + 1) _ rfl (load9 (b := ⟨b.id, s, b.born, b.kind, b.phase, b.car, b.zone, b.serv, m⟩) (setRow_heap _ _ _ _ _ _ D5.out.res))
        case hR => exact ⟨a4, p4, by rw [HE.out.1, HE.out.2, HD.out]; rfl, by rw [HE.out.2, HD.out]; exact (O5.out.grown fun k h1 h2 => setRow_other _ _ k _ (by omega)).base (by omega), Below.row D5.out.low (by omega) _⟩

end Go.Proofs.Ytieoihmndpkdoaa
